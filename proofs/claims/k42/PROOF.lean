import PyProof.Rows.All
import Wide.All
import OpenK.AllK
import Wide.FinOn
import Lean
import PyProof.EqAt
import PyProof.EqKinds
import PyProof.TupleCall
import PySem.Challenge.RW_forestread_k42_used_and_listed
set_option Elab.async false
set_option bootstrap.genMatcherCode false
set_option compiler.extract_closed false
set_option genSizeOf false
set_option linter.all false
set_option maxRecDepth 100000

namespace L2
open PySem PySem.Spec PyProof.Rows


abbrev Key := Sum Int Str
def keyIs : Key → Value → Bool
  | .inl k, v => Value.isInt k v
  | .inr x, v => Value.isStrOf x v
def keyH (w : World) : Key → Int
  | .inl k => hashInt k
  | .inr x => hashStr w x
theorem keyIs_shape : ∀ {k : Key} {v : Value}, keyIs k v = true → (∃ i t, k = Sum.inl i ∧ v = Value.int i t) ∨ (∃ x t, k = Sum.inr x ∧ v = Value.str x t)
  | .inl i, v, h => by
    obtain ⟨t, e⟩ := Value.isInt_shape (k := i) (v := v) h
    exact .inl ⟨i, t, rfl, e⟩
  | .inr x, v, h => by
    obtain ⟨t, e⟩ := Value.isStrOf_shape (x := x) (v := v) h
    exact .inr ⟨x, t, rfl, e⟩
theorem key_ll (a b : Int) : decide ((Sum.inl a : Key) = Sum.inl b) = (a == b) := by
  by_cases e : a = b
  · subst e; simp
  · have h : ¬ (Sum.inl a : Key) = Sum.inl b := fun q => e (Sum.inl.inj q)
    rw [decide_eq_false h]
    exact (beq_eq_false_iff_ne.mpr e).symm
theorem key_rr (a b : Str) : decide ((Sum.inr a : Key) = Sum.inr b) = decide (a = b) := by
  by_cases e : a = b
  · subst e; simp
  · have h : ¬ (Sum.inr a : Key) = Sum.inr b := fun q => e (Sum.inr.inj q)
    rw [decide_eq_false h, decide_eq_false e]
theorem key_lr (a : Int) (b : Str) : decide ((Sum.inl a : Key) = Sum.inr b) = false := decide_eq_false (fun q => nomatch q)
theorem key_rl (a : Str) (b : Int) : decide ((Sum.inr a : Key) = Sum.inl b) = false := decide_eq_false (fun q => nomatch q)

def mixKind (prog : Program) (w : World) : PySem.KeyKind prog w Key where
  is := keyIs
  hash := keyH w
  inj := fun v a b ha hb => by
    rcases keyIs_shape ha with ⟨i, t, rfl, rfl⟩ | ⟨x, t, rfl, rfl⟩
    · rcases keyIs_shape hb with ⟨j, u, rfl, e⟩ | ⟨y, u, rfl, e⟩
      · injection e with e1 _; rw [e1]
      · exact nomatch e
    · rcases keyIs_shape hb with ⟨j, u, rfl, e⟩ | ⟨y, u, rfl, e⟩
      · exact nomatch e
      · injection e with e1 _; rw [e1]
  byValue := fun k v h => by
    rcases keyIs_shape h with ⟨i, t, rfl, rfl⟩ | ⟨x, t, rfl, rfl⟩ <;> rfl
  pyHash := fun hv h => by
    rcases keyIs_shape hv with ⟨i, t, rfl, rfl⟩ | ⟨x, t, rfl, rfl⟩
    · exact wpAny_pyHash_int h
    · exact wpAny_pyHash_str h
  eqBool := fun hu hv h => by
    rcases keyIs_shape hu with ⟨i, t, rfl, rfl⟩ | ⟨x, t, rfl, rfl⟩
    · rcases keyIs_shape hv with ⟨j, u, rfl, rfl⟩ | ⟨y, u, rfl, rfl⟩
      · rw [key_ll] at h; exact wpAny_eqBool_int h
      · rw [key_lr] at h; exact SeqAt.EqAt.int_str i t y u _ _ _ _ h
    · rcases keyIs_shape hv with ⟨j, u, rfl, rfl⟩ | ⟨y, u, rfl, rfl⟩
      · rw [key_rl] at h; exact SeqAt.EqAt.str_int x t j u _ _ _ _ h
      · rw [key_rr] at h; exact wpAny_eqBool_str h
  «strs» := fun k x t v h => by
    rcases keyIs_shape h with ⟨i, u, rfl, e⟩ | ⟨y, u, rfl, e⟩
    · exact nomatch e
    · injection e with e1 _
      subst e1
      cases v <;> rfl

end L2

namespace L2
open PySem PySem.Spec PyProof.Rows


inductive V where
  | non | bl (b : Bool) | int (i : Int) | str (x : Str) | byt (b : Array UInt8) | flt (b : UInt64) | ref (a : Addr) | ty (n : String)
  deriving DecidableEq

def RelV : V → Value → Prop
  | .non, u => u = Value.none
  | .bl b, u => u = Value.bool b
  | .int i, u => ∃ t, u = Value.int i t
  | .str x, u => ∃ t, u = Value.str x t
  | .byt b, u => ∃ t, u = Value.bytes b t
  | .flt b, u => ∃ t, u = Value.float b t
  | .ref a, u => u = Value.ref a
  | .ty n, u => u = Value.type n

abbrev Vals : List V → List Value → Prop := Paired RelV
theorem Vals.length {xs : List V} {us : List Value} (r : Vals xs us) : xs.length = us.length := Paired.length r
theorem Vals.get : ∀ {xs : List V} {us : List Value} {i : Nat} {x : V}, Vals xs us → xs[i]? = some x → ∃ u, us[i]? = some u ∧ RelV x u
  | _, _, _, _, .nil, e => by simp at e
  | _, _, 0, _, .cons r _, e => by simp at e; subst e; exact ⟨_, rfl, r⟩
  | _, _, i + 1, x, .cons _ t, e => by
    obtain ⟨u, h1, h2⟩ := Vals.get (i := i) (x := x) t (by simpa using e)
    exact ⟨u, by simpa using h1, h2⟩
theorem Vals.set {x : V} {u : Value} (r : RelV x u) : ∀ {xs : List V} {us : List Value} (i : Nat), Vals xs us → Vals (xs.set i x) (us.set i u)
  | _, _, _, .nil => .nil
  | _, _, 0, .cons _ t => .cons r t
  | _, _, i + 1, .cons q t => .cons q (Vals.set r i t)
theorem Vals.append : ∀ {xs ys : List V} {us ws : List Value}, Vals xs us → Vals ys ws → Vals (xs ++ ys) (us ++ ws)
  | _, _, _, _, .nil, s => s
  | _, _, _, _, .cons r t, s => .cons r (Vals.append t s)
theorem Vals.take : ∀ {xs : List V} {us : List Value} (n : Nat), Vals xs us → Vals (xs.take n) (us.take n)
  | _, _, 0, _ => .nil
  | _, _, _ + 1, .nil => .nil
  | _, _, n + 1, .cons r t => .cons r (Vals.take n t)
theorem Vals.drop : ∀ {xs : List V} {us : List Value} (n : Nat), Vals xs us → Vals (xs.drop n) (us.drop n)
  | _, _, 0, r => r
  | _, _, _ + 1, .nil => .nil
  | _, _, n + 1, .cons _ t => Vals.drop n t
theorem Vals.none_of : ∀ {xs : List V} {us : List Value} {i : Nat}, Vals xs us → xs[i]? = none → us[i]? = none := fun {xs us i} r e => by
  have h1 := r.length
  have h2 : xs.length ≤ i := List.getElem?_eq_none_iff.mp e
  exact List.getElem?_eq_none_iff.mpr (by lia)

def RelO : Option V → Option Value → Prop
  | some v, some u => RelV v u
  | none, none => True
  | _, _ => False
def KV {κ : Type} : List (κ × V) → List (κ × Value) → Prop := Paired fun (p : κ × V) (q : κ × Value) => p.1 = q.1 ∧ RelV p.2 q.2


def kV : Key → V
  | .inl i => .int i
  | .inr x => .str x


inductive HO where
  
  | lst (xs : List V)
  
  | tup (xs : List V)
  
  | dK (kvs : List (Key × V)) | dT (kvs : List (List Key × V))
  
  | set (S : Int → Bool) (n : Nat)
  
  | ins (C dx : Addr) (fs : List (Str × V))
  
  | own (x : Addr)
  
  | xd (fs : List (Str × V))
  
  | met (f x : Addr)
  
  | rng (lo hi : Int)
  
  | frz (o : Obj) (u : HO)
  
  | tbl (ps : Array Value)
  
  | ext (φ : Heap → Prop)

abbrev Hp := Addr → Option HO
def upd (H : Hp) (a : Addr) (o : HO) : Hp := fun b => if b = a then some o else H b
theorem upd_same {H : Hp} {a : Addr} {o : HO} : upd H a o a = some o := by unfold upd; rw [if_pos rfl]
theorem upd_ne {H : Hp} {a b : Addr} {o : HO} (h : b ≠ a) : upd H a o b = H b := by unfold upd; rw [if_neg h]
theorem upd_upd {H : Hp} {a : Addr} {o u : HO} : upd (upd H a o) a u = upd H a u := by
  funext b; unfold upd; split <;> rfl

theorem ne_of_none {H : Hp} {a b : Addr} {o : HO} (h : H a = some o) (h' : H b = none) : a ≠ b := by
  intro e; subst e; rw [h] at h'; cases h'

section
variable (P : Program) (w : World)
def ObjOk (H : Hp) (h : Heap) (a : Addr) : HO → Prop
  | .lst xs => xs.length ≤ sizeLine ∧ ∃ (its : List Value) (n : Nat), Vals xs its ∧ h.get? a = some { cls := .type "list", data := .seq its.toArray n }
  | .tup xs => xs.length ≤ sizeLine ∧ ∃ its : List Value, Vals xs its ∧ IsTup h a its.toArray
  | .dK kvs => kvs.length ≤ sizeLine ∧ (a == sysModules) = false ∧ ∃ vs, KV kvs vs ∧ h.DictOf (mixKind P w) a vs
  | .dT kvs => kvs.length ≤ sizeLine ∧ (a == sysModules) = false ∧ ∃ xs : List (List Key × Addr × Value),
      Paired (fun (p : List Key × V) (q : List Key × Addr × Value) => p.1 = q.1 ∧ H q.2.1 = some (.tup (p.1.map kV)) ∧ RelV p.2 q.2.2) kvs xs ∧
      ∃ o es ep, h.get? a = some o ∧ o.ExactDict ∧ o.data = .dict es ep ∧ es.toList = xs.map (entryOfKey (tupleKind (mixKind P w))) ∧ (xs.map (·.1)).Nodup
  | .set S n => h.SetOf (intKind P w) a S n
  | .ins C dx fs => H dx = some (.own a) ∧ fs.length ≤ 1000 ∧ dx ≠ a ∧ h.get? a = some (PySem.W.instObj C dx) ∧
      ∃ mA, h.Ns1 dx mA ∧ (∀ f, RelO (fs.lookup f) (mA f)) ∧ PySem.Within mA (fs.map (·.1))
  | .own _ => ∃ o, h.get? a = some o
  | .xd fs => ∃ mA, h.Ns1 a mA ∧ ∀ f, RelO (fs.lookup f) (mA f)
  | .rng lo hi => ∃ t u v, h.get? a = some { cls := .type "range", data := .fields #[.int lo t, .int hi u, .int 1 v] }
  | .frz o u => h.get? a = some o ∧ ObjOk H h a u
  | .tbl ps => h.get? a = some { cls := .none, data := .fields ps }
  | .met f x => h.get? a = some (PySem.W.methodObj (.ref f) (.ref x))
  | .ext φ => φ h ∧ (∃ o, h.get? a = some o) ∧ ∀ h1 h2 : Heap, φ h1 → (∀ o, h1.get? a = some o → h2.get? a = some o) → φ h2

def HOk (H : Hp) (h : Heap) : Prop := ∀ a o, H a = some o → ObjOk P w H h a o
end

section
variable {P : Program} {w : World} {H H' : Hp} {h h' : Heap} {a : Addr} {o : HO}
theorem ObjOk.lt (x : ObjOk P w H h a o) : a < h.objs.size := by
  cases o with
  | lst xs => obtain ⟨_, _, _, _, e⟩ := x; exact Heap.lt_size e
  | tup xs => obtain ⟨_, _, _, p⟩ := x; exact p.lt
  | dK kvs => obtain ⟨_, _, _, _, o, _, _, e, _⟩ := x; exact Heap.lt_size e
  | dT kvs => obtain ⟨_, _, _, _, o, _, _, e, _⟩ := x; exact Heap.lt_size e
  | set S n => obtain ⟨o, _, _, _, e, _⟩ := x; exact Heap.lt_size e
  | ins C dx fs => obtain ⟨_, _, _, e, _⟩ := x; exact Heap.lt_size e
  | own y => obtain ⟨_, e⟩ := x; exact Heap.lt_size e
  | xd fs => obtain ⟨_, ⟨_, _, _, e, _⟩, _⟩ := x; exact Heap.lt_size e
  | rng lo hi => obtain ⟨_, _, _, e⟩ := x; exact Heap.lt_size e
  | frz ob u => obtain ⟨e, _⟩ := x; exact Heap.lt_size e
  | tbl ps => exact Heap.lt_size (show h.get? a = some _ from x)
  | met f y => exact Heap.lt_size (show h.get? a = some _ from x)
  | ext φ => obtain ⟨_, ⟨_, e⟩, _⟩ := x; exact Heap.lt_size e
theorem Paired.mapP {α β : Type} {F G : α → β → Prop} : ∀ {l₁ : List α} {l₂ : List β}, Paired F l₁ l₂ → (∀ a b, F a b → G a b) → Paired G l₁ l₂
  | _, _, .nil, _ => .nil
  | _, _, .cons r t, f => .cons (f _ _ r) (Paired.mapP t f)
theorem ObjOk.stay (x : ObjOk P w H h a o) (k : ∀ b u, (b = a ∨ H b = some (.own a)) → h.get? b = some u → h'.get? b = some u)
    (ho : ∀ b, H b = some (.own a) → H' b = some (.own a)) (ht : ∀ b xs, H b = some (.tup xs) → H' b = some (.tup xs)) : ObjOk P w H' h' a o := by
  induction o with
  | lst xs => obtain ⟨z, its, n, r, e⟩ := x; exact ⟨z, its, n, r, k _ _ (.inl rfl) e⟩
  | tup xs => obtain ⟨z, its, r, ob, e, c⟩ := x; exact ⟨z, its, r, ob, k _ _ (.inl rfl) e, c⟩
  | dK kvs => obtain ⟨z, y, vs, r, ob, es, ep, e, c⟩ := x; exact ⟨z, y, vs, r, ob, es, ep, k _ _ (.inl rfl) e, c⟩
  | dT kvs =>
    obtain ⟨z, y, xs, r, ob, es, ep, e, c⟩ := x
    exact ⟨z, y, xs, Paired.mapP r fun p q z => ⟨z.1, ht _ _ z.2.1, z.2.2⟩, ob, es, ep, k _ _ (.inl rfl) e, c⟩
  | set S n => obtain ⟨ob, es, ep, t, e, c⟩ := x; exact ⟨ob, es, ep, t, k _ _ (.inl rfl) e, c⟩
  | ins C dx fs =>
    obtain ⟨d, z, ne, e, mA, ⟨od, es, ep, e2, c⟩, r⟩ := x
    exact ⟨ho _ d, z, ne, k _ _ (.inl rfl) e, mA, ⟨od, es, ep, k _ _ (.inr d) e2, c⟩, r⟩
  | own y => obtain ⟨ob, e⟩ := x; exact ⟨ob, k _ _ (.inl rfl) e⟩
  | xd fs => obtain ⟨mA, ⟨od, es, ep, e, c⟩, r⟩ := x; exact ⟨mA, ⟨od, es, ep, k _ _ (.inl rfl) e, c⟩, r⟩
  | rng lo hi => obtain ⟨t, u, v, e⟩ := x; exact ⟨t, u, v, k _ _ (.inl rfl) e⟩
  | frz ob u ih => obtain ⟨e, q⟩ := x; exact ⟨k _ _ (.inl rfl) e, ih q⟩
  | tbl ps =>
    have e : h.get? a = some { cls := .none, data := .fields ps } := x
    show h'.get? a = some { cls := .none, data := .fields ps }
    exact k a _ (.inl rfl) e
  | met f y =>
    have e : h.get? a = some (PySem.W.methodObj (.ref f) (.ref y)) := x
    show h'.get? a = some (PySem.W.methodObj (.ref f) (.ref y))
    exact k a _ (.inl rfl) e
  | ext φ => obtain ⟨p, ⟨o, e⟩, st⟩ := x; exact ⟨st _ _ p fun o q => k _ _ (.inl rfl) q, ⟨o, k _ _ (.inl rfl) e⟩, st⟩
theorem HOk.lt (x : HOk P w H h) (e : H a = some o) : a < h.objs.size := (x a o e).lt
theorem HOk.fresh (x : HOk P w H h) (e : h.objs.size ≤ a) : H a = none := by
  cases q : H a with
  | none => rfl
  | some u => exact absurd (Nat.lt_of_lt_of_le (x.lt q) e) (Nat.lt_irrefl _)

theorem HOk.kept (x : HOk P w H h) (k : ∀ b u, h.get? b = some u → h'.get? b = some u) : HOk P w H h' := fun a o e =>
  (x a o e).stay (fun b u _ q => k b u q) (fun _ q => q) fun _ _ q => q

theorem HOk.laid (x : HOk P w H h) (k : ∀ b u, h.get? b = some u → h'.get? b = some u) (hp : h.objs.size ≤ a) (new : ObjOk P w (upd H a o) h' a o) : HOk P w (upd H a o) h' := fun b u e => by
  have hn := x.fresh hp
  by_cases hb : b = a
  · subst hb; rw [upd_same] at e; cases e; exact new
  · rw [upd_ne hb] at e
    exact (x b u e).stay (fun c v _ q => k c v q) (fun c q => by rw [upd_ne (ne_of_none q hn)]; exact q) fun c xs q => by rw [upd_ne (ne_of_none q hn)]; exact q
end


def Rd (H : Hp) (a : Addr) (u : HO) : Prop := H a = some u ∨ ∃ o, H a = some (.frz o u)
theorem Rd.of {H : Hp} {a : Addr} {u : HO} (h : H a = some u) : Rd H a u := .inl h
theorem Rd.ok {P : Program} {w : World} {H : Hp} {h : Heap} {a : Addr} {u : HO} (r : Rd H a u) (x : HOk P w H h) : ObjOk P w H h a u := by
  rcases r with r | ⟨o, r⟩
  · exact x a u r
  · obtain ⟨_, q⟩ := x a _ r
    exact q

def Mut : Option HO → Prop
  | some (.lst _) => True
  | some (.dK _) => True
  | some (.dT _) => True
  | some (.set _ _) => True
  | some (.ins _ _ _) => True
  | some (.ext _) => True
  | _ => False
section
variable {P : Program} {w : World} {H : Hp} {h h' : Heap} {x e : Addr} {o' : HO}

theorem HOk.write (ok : HOk P w H h) (mu : Mut (H x)) (he : e = x ∨ H e = some (.own x)) (k : ∀ b u, b ≠ e → h.get? b = some u → h'.get? b = some u) (heo : ∃ u, h'.get? e = some u)
    (new : ObjOk P w (upd H x o') h' x o') : HOk P w (upd H x o') h' := fun b u q => by
  have nown : ∀ c y, H c = some (.own y) → c ≠ x := fun c y r z => by subst z; rw [r] at mu; exact mu
  have ntup : ∀ c xs, H c = some (.tup xs) → c ≠ x := fun c xs r z => by subst z; rw [r] at mu; exact mu
  by_cases hb : b = x
  · subst hb; rw [upd_same] at q; cases q; exact new
  · rw [upd_ne hb] at q
    by_cases hbe : b = e
    · have q' : H b = some (.own x) := by
        rcases he with z | z
        · exact absurd (hbe.trans z) hb
        · rw [hbe]; exact z
      rw [q] at q'; cases q'
      obtain ⟨v, hv⟩ := heo
      exact ⟨v, by rw [hbe]; exact hv⟩
    · refine (ok b u q).stay (fun c v hc r => k c v ?_ r) (fun c r => by rw [upd_ne (nown c b r)]; exact r) fun c xs r => by rw [upd_ne (ntup c xs r)]; exact r
      rcases hc with rfl | hc
      · exact hbe
      · rintro rfl
        rcases he with z | z
        · exact nown c b hc z
        · rw [hc] at z; cases z; exact hb rfl
end


structure Un (fs ex : List Addr) (H H' : Hp) (h h' : Heap) : Prop where
  keep : ∀ b o, h.get? b = some o → H b = none → b ∉ fs → b ∉ ex → h'.get? b = some o
  slot : ∀ b o, h.get? b = some o → H b = none → b ∈ fs → b ∉ ex → ∃ sl, h'.get? b = some { o with slots := sl }
  free : ∀ b o, h.get? b = some o → H b = none → b ∉ ex → H' b = none
  there : ∀ b o, h.get? b = some o → b ∉ ex → ∃ o', h'.get? b = some o'
  tups : ∀ b xs, H b = some (.tup xs) → H' b = some (.tup xs)
  frzs : ∀ b o u, H b = some (.frz o u) → H' b = some (.frz o u)
  tbls : ∀ b ps, H b = some (.tbl ps) → ∃ more, H' b = some (.tbl (ps ++ more))
section
variable {fs fs' ex ex' : List Addr} {H H1 H2 : Hp} {h h1 h2 h' : Heap} {a x e : Addr} {o : HO}
theorem Un.any (u : Un fs ex H H1 h h1) {b : Addr} {ob : Obj} (q : h.get? b = some ob) (n : H b = none) (hx : b ∉ ex) : ∃ sl, h1.get? b = some { ob with slots := sl } := by
  by_cases hb : b ∈ fs
  · exact u.slot b ob q n hb hx
  · exact ⟨ob.slots, u.keep b ob q n hb hx⟩
theorem Un.trans (a : Un fs ex H H1 h h1) (b : Un fs ex H1 H2 h1 h2) : Un fs ex H H2 h h2 where
  keep := fun c ob q n hc hx => b.keep c ob (a.keep c ob q n hc hx) (a.free c ob q n hx) hc hx
  slot := fun c ob q n hc hx => by
    obtain ⟨sl, e1⟩ := a.slot c ob q n hc hx
    obtain ⟨sl', e2⟩ := b.slot c _ e1 (a.free c ob q n hx) hc hx
    exact ⟨sl', e2⟩
  free := fun c ob q n hx => by
    obtain ⟨o', e1⟩ := a.there c ob q hx
    exact b.free c o' e1 (a.free c ob q n hx) hx
  there := fun c ob q hx => by
    obtain ⟨o', e1⟩ := a.there c ob q hx
    exact b.there c o' e1 hx
  tups := fun c xs q => b.tups c xs (a.tups c xs q)
  frzs := fun c ob xs q => b.frzs c ob xs (a.frzs c ob xs q)
  tbls := fun c ps q => by
    obtain ⟨m1, e1⟩ := a.tbls c ps q
    obtain ⟨m2, e2⟩ := b.tbls c _ e1
    exact ⟨m1 ++ m2, by rw [e2, Array.append_assoc]⟩
theorem Un.kept (k : ∀ b u, h.get? b = some u → h'.get? b = some u) : Un fs ex H H h h' :=
  ⟨fun b ob q _ _ _ => k b ob q, fun b ob q _ _ _ => ⟨ob.slots, k b ob q⟩, fun _ _ _ n _ => n, fun b ob q _ => ⟨ob, k b ob q⟩, fun _ _ q => q, fun _ _ _ q => q, fun _ ps q => ⟨#[], by rw [q]; simp⟩⟩
theorem Un.refl : Un fs ex H H h h := Un.kept fun _ _ q => q
theorem Un.laid (k : ∀ b u, h.get? b = some u → h'.get? b = some u) (hp : h.objs.size ≤ a) (hn : H a = none) : Un fs ex H (upd H a o) h h' where
  keep := fun b u q _ _ _ => k b u q
  slot := fun b u q _ _ _ => ⟨u.slots, k b u q⟩
  free := fun b u q n _ => by rw [upd_ne (Nat.ne_of_lt (Nat.lt_of_lt_of_le (Heap.lt_size q) hp))]; exact n
  there := fun b u q _ => ⟨u, k b u q⟩
  tups := fun b xs q => by rw [upd_ne (ne_of_none q hn)]; exact q
  frzs := fun b u xs q => by rw [upd_ne (ne_of_none q hn)]; exact q
  tbls := fun b ps q => ⟨#[], by rw [upd_ne (ne_of_none q hn), q]; simp⟩
theorem Un.write (mu : Mut (H x)) (he : e = x ∨ H e = some (.own x)) (k : ∀ b u, b ≠ e → h.get? b = some u → h'.get? b = some u) (heo : ∃ u, h'.get? e = some u) : Un fs ex H (upd H x o) h h' := by
  have hx : ∀ b, H b = none → b ≠ x := fun b n z => by subst z; rw [n] at mu; exact mu
  have hb : ∀ b, H b = none → b ≠ e := fun b n z => by
    subst z
    rcases he with r | r
    · exact hx b n r
    · rw [n] at r; cases r
  have hm : ∀ b u, H b = some u → ¬ Mut (some u) → b ≠ x := fun b u q nm z => by subst z; rw [q] at mu; exact nm mu
  refine ⟨fun b u q n _ _ => k b u (hb b n) q, fun b u q n _ _ => ⟨u.slots, k b u (hb b n) q⟩, fun b u q n _ => by rw [upd_ne (hx b n)]; exact n, fun b u q _ => ?_,
    fun b xs q => by rw [upd_ne (hm b _ q fun z => z)]; exact q, fun b u xs q => by rw [upd_ne (hm b _ q fun z => z)]; exact q, fun b ps q => ⟨#[], by rw [upd_ne (hm b _ q fun z => z), q]; simp⟩⟩
  by_cases hbe : b = e
  · subst hbe; exact heo
  · exact ⟨u, k b u hbe q⟩
theorem Un.mono (u : Un fs ex H H1 h h1) (hs : ∀ b ∈ fs, b ∈ fs') (hx : ∀ b ∈ ex, b ∈ ex') : Un fs' ex' H H1 h h1 :=
  ⟨fun b ob q n hb he => u.keep b ob q n (fun z => hb (hs b z)) fun z => he (hx b z), fun _ _ q n _ he => u.any q n fun z => he (hx _ z), fun b ob q n he => u.free b ob q n fun z => he (hx b z), fun b ob q he => u.there b ob q fun z => he (hx b z), u.tups, u.frzs, u.tbls⟩
end


def trk (h : Heap) (H : Hp) : List Addr := (List.range h.objs.size).filter fun a => (H a).isSome
def hidT (h : Heap) (H : Hp) : Heap := PySem.W.hideAll h (trk h H)
theorem hidT_size (h : Heap) (H : Hp) : (hidT h H).objs.size = h.objs.size := PySem.W.hideAll_size _ _
theorem hidT_get {h : Heap} {H : Hp} {b : Addr} {o : Obj} (e : h.get? b = some o) (n : H b = none) : (hidT h H).get? b = some o :=
  PySem.W.hideAll_get _ e fun hm => by
    have q : (H b).isSome = true := (List.mem_filter.mp hm).2
    rw [n] at q; simp at q
theorem of_hidT {h : Heap} {H : Hp} {b : Addr} {o : Obj} (e : (hidT h H).get? b = some o) : h.get? b = some o ∧ H b = none := by
  have e' : h.get? b = some o := PySem.W.of_hideAll (trk h H) e
  refine ⟨e', ?_⟩
  cases q : H b with
  | none => rfl
  | some x =>
    have hm : b ∈ trk h H := List.mem_filter.mpr ⟨List.mem_range.mpr (Heap.lt_size e'), by simp [q]⟩
    have z : (hidT h H).get? b = none := PySem.W.hideAll_none (trk h H) hm
    rw [z] at e; cases e


def allNews (g h : Heap) (L : Addr) : List (Addr × Obj) := (List.range h.objs.size).filterMap fun a => if a = L ∨ (g.get? a).isSome = true then none else (h.get? a).map fun o => (a, o)
def rest (g h : Heap) (L d : Addr) : List (Addr × Obj) := (allNews g h L).filter fun p => decide (p.1 ≠ d)
end L2

namespace L2
open PySem PySem.Spec PyProof.Rows


structure Mod (K : PySem.W.Frag) (mg : Str → Option Value) (base : Heap) : Prop where
  kin : K.In base
  glob : base.Ns mainGlobals mg
  blt : ∃ mb, base.Ns builtinsNs mb ∧ ∀ x : Str, x ≠ "__name__" → mb x = bootBuiltins x
  nolimit : base.NoLimit


structure Cx where
  prog : Program
  w : World
  K : PySem.W.Frag
  mg : Str → Option Value
  base : Heap
  A : Around
  N : List Str
  s₀ : Shared
  H₀ : Hp
  env : Env
  outer : List Env
  stack : List Env
  ex : List Addr
  fn : Str → Bool
  calm : Bool
  pn : List (Addr × Obj)
  xe : Value → Shared → Prop

def frs (l : List Env) : List Addr := l.filterMap (·.frame)
abbrev Cx.fs (X : Cx) : List Addr := frs X.outer

def Vis (sc : Scope) (x : Str) : Prop := sc.names.lookup x = some .local ∨ sc.names.lookup x = some .cell ∨ sc.names.lookup x = some .free
def Loc (sc : Scope) (x : Str) : Prop := sc.names.lookup x = some .local ∨ sc.names.lookup x = some .cell
def Look (env : Env) (h : Heap) (m : Str → Option Value) (x : Str) (u : Value) : Prop :=
  (env.kindOf x = some .local ∧ m x = some u) ∨ ((env.kindOf x = some .cell ∨ env.kindOf x = some .free) ∧ ∃ c, env.cells.lookup x = some c ∧ h.IsCell c (some u))

structure Cx.Ok (X : Cx) : Prop where
  mod : Mod X.K X.mg X.base
  kind : X.env.scope.kind = .function
  glob : X.env.globals = mainGlobals
  blt : X.env.builtins = builtinsNs
  above : X.s₀.heap.objs.size ≤ X.env.locals
  inj : ∀ x y c, X.env.cells.lookup x = some c → X.env.cells.lookup y = some c → x = y
  has : ∀ x, (X.env.kindOf x = some .cell ∨ X.env.kindOf x = some .free) → ∃ c, X.env.cells.lookup x = some c
  cab : ∀ x c, X.fn x = true → X.env.cells.lookup x = some c → X.s₀.heap.objs.size ≤ c
  hd : X.calm = true → X.A.handled = none
  frames : X.A.frames = some X.stack
  stk : X.stack = X.outer ∨ (X.stack = X.env :: X.outer ∧ X.env.frame = some X.env.locals)
  exf : ∀ b ∈ X.ex, b ≠ X.env.locals ∧ ∀ x c, X.env.cells.lookup x = some c → c ≠ b
  bs : ∀ b o, X.base.get? b = some o → X.s₀.heap.get? b = some o ∧ X.H₀ b = none
  bsz : X.base.objs.size ≤ X.s₀.heap.objs.size
  noex : ∀ b o, X.base.get? b = some o → b ∉ X.ex
  exfs : ∀ b ∈ X.ex, b ∉ X.fs
  funs : X.s₀.heap.FunFrames X.base X.outer
  frf : ∀ b ∈ X.fs, X.H₀ b = none

structure Inv (X : Cx) (pins : List (Addr × Obj)) (σ : List (Option V)) (H : Hp) (s : Shared) : Prop where
  ok : X.Ok
  os : s.os = X.s₀.os
  bare : AllBare s.gens
  base : Un X.fs X.ex X.H₀ H X.s₀.heap s.heap
  loc : ∃ m, s.heap.Ns X.env.locals m ∧ ∀ (i : Nat) (x : Str) (v : V), X.N[i]? = some x → σ[i]? = some (some v) → Vis X.env.scope x → ∃ u, RelV v u ∧ Look X.env s.heap m x u
  cell : ∀ x c, X.env.cells.lookup x = some c → ∃ v, s.heap.IsCell c v
  free : H X.env.locals = none
  freeC : ∀ x c, X.env.cells.lookup x = some c → H c = none
  pin : ∀ p ∈ X.pn ++ pins, s.heap.get? p.1 = some p.2 ∧ H p.1 = none ∧ p.1 ≠ X.env.locals ∧ p.1 ∉ X.fs ∧ ∀ v, p.2.data ≠ .cell v
  hok : HOk X.prog X.w H s.heap
  len : σ.length = X.N.length

section
variable {X : Cx} {pins : List (Addr × Obj)} {σ : List (Option V)} {H H' : Hp} {s : Shared} {h' : Heap}

theorem Cx.Ok.nofr (ok : X.Ok) {b : Addr} {o : Obj} (e : X.base.get? b = some o) : b ∉ X.fs := fun hb => by
  have := (ok.funs.mem hb).1
  rw [e] at this; cases this
theorem Inv.bs (I : Inv X pins σ H s) : ∀ b o, X.base.get? b = some o → s.heap.get? b = some o ∧ H b = none := fun b o e =>
  ⟨I.base.keep b o (I.ok.bs b o e).1 (I.ok.bs b o e).2 (I.ok.nofr e) (I.ok.noex b o e), I.base.free b o (I.ok.bs b o e).1 (I.ok.bs b o e).2 (I.ok.noex b o e)⟩
theorem Inv.bk (I : Inv X pins σ H s) : ∀ b o, X.base.get? b = some o → s.heap.get? b = some o := fun b o e => (I.bs b o e).1
theorem Inv.mod (I : Inv X pins σ H s) : Mod X.K X.mg X.base := I.ok.mod
theorem Inv.kIn (I : Inv X pins σ H s) : X.K.In s.heap := I.ok.mod.kin.keeps I.bk
theorem Inv.nolimit (I : Inv X pins σ H s) : s.heap.NoLimit := I.ok.mod.nolimit.keeps I.bk

theorem Inv.fr (I : Inv X pins σ H s) : ∃ m, Fr X.base X.env.locals s.heap m :=
  let ⟨m, hn, _⟩ := I.loc
  ⟨m, hn, I.bk, Nat.le_trans I.ok.bsz I.ok.above⟩
theorem Inv.lt (I : Inv X pins σ H s) : X.env.locals < s.heap.objs.size := let ⟨_, hn, _⟩ := I.loc; hn.lt
theorem Inv.sz (I : Inv X pins σ H s) : X.s₀.heap.objs.size ≤ s.heap.objs.size := Nat.le_trans I.ok.above (Nat.le_of_lt I.lt)
theorem Inv.nofs (I : Inv X pins σ H s) {a : Addr} (h : s.heap.objs.size ≤ a) : a ∉ X.fs := fun hb => by
  obtain ⟨_, o, ho, _⟩ := I.ok.funs.mem hb
  exact absurd (Nat.lt_of_lt_of_le (Heap.lt_size ho) (Nat.le_trans I.sz h)) (Nat.lt_irrefl _)
theorem Inv.cne (I : Inv X pins σ H s) : ∀ x c, X.env.cells.lookup x = some c → c ≠ X.env.locals := fun x c e z => by
  obtain ⟨v, o, ho, hd⟩ := I.cell x c e
  obtain ⟨m, ⟨o', es, ep, ho', hd', _⟩, _⟩ := I.loc
  rw [z, ho'] at ho; cases ho; rw [hd'] at hd; cases hd
theorem Inv.funs (I : Inv X pins σ H s) : s.heap.FunFrames X.base X.outer := by
  have all : ∀ (l : List Env), (∀ b ∈ frs l, b ∈ X.fs) → X.s₀.heap.FunFrames X.base l → s.heap.FunFrames X.base l := by
    intro l
    induction l with
    | nil => intro _ _; trivial
    | cons env r ih =>
      intro hs hl
      obtain ⟨hk, ⟨L, o, hf, hn, ho, hd⟩, hr⟩ := hl
      have hL : L ∈ X.fs := hs L (by unfold frs; rw [List.filterMap_cons, hf]; exact List.mem_cons_self)
      obtain ⟨sl, e⟩ := I.base.slot L o ho (I.ok.frf L hL) hL fun z => I.ok.exfs L z hL
      exact ⟨hk, ⟨L, _, hf, hn, e, hd⟩, ih (fun b hb => hs b (by unfold frs; rw [List.filterMap_cons, hf]; exact List.mem_cons_of_mem _ hb)) hr⟩
  exact all X.outer (fun _ hb => hb) I.ok.funs


theorem Inv.stack (I : Inv X pins σ H s) : s.heap.FunFrames X.base X.stack := by
  rcases I.ok.stk with e | ⟨e, hf⟩
  · rw [e]; exact I.funs
  · rw [e]
    obtain ⟨m, hn, _⟩ := I.loc
    refine .cons (by rw [I.ok.kind]; decide) hf hn ?_ I.funs
    exact Heap.get?_none_of_le (Nat.le_trans I.ok.bsz I.ok.above)
theorem Inv.stkSub (I : Inv X pins σ H s) : ∀ b ∈ frs X.stack, b ∈ X.env.locals :: X.fs := fun b hb => by
  rcases I.ok.stk with e | ⟨e, hf⟩
  · rw [e] at hb; exact List.mem_cons_of_mem _ hb
  · rw [e] at hb
    unfold frs at hb
    rw [List.filterMap_cons, hf] at hb
    exact hb
theorem Inv.stkFree (I : Inv X pins σ H s) : ∀ b ∈ frs X.stack, H b = none := fun b hb => by
  rcases List.mem_cons.mp (I.stkSub b hb) with e | hb
  · rw [e]; exact I.free
  · obtain ⟨_, o, ho, _⟩ := I.ok.funs.mem hb
    exact I.base.free b o ho (I.ok.frf b hb) fun z => I.ok.exfs b z hb


theorem Inv.step {g' : Array GenState} {t' : Nat} {d' : Drawn} {ch : List Addr} (I : Inv X pins σ H s)
    (hch : ∀ b ∈ ch, (b ∈ X.ex ∨ X.s₀.heap.objs.size ≤ b) ∧ b ≠ X.env.locals ∧ (∀ x c, X.env.cells.lookup x = some c → c ≠ b) ∧ ∀ p ∈ X.pn ++ pins, p.1 ≠ b)
    (keep : ∀ b o, b ≠ X.env.locals → b ∉ X.fs → b ∉ ch → s.heap.get? b = some o → H b = none → h'.get? b = some o)
    (slot : ∀ b o, b ≠ X.env.locals → b ∈ X.fs → b ∉ ch → s.heap.get? b = some o → H b = none → ∃ sl, h'.get? b = some { o with slots := sl }) (free : ∀ b o, b ∉ ch → s.heap.get? b = some o → H b = none → H' b = none)
    (there : ∀ b o, b ∉ ch → s.heap.get? b = some o → ∃ o', h'.get? b = some o')
    (tups : ∀ b xs, H b = some (.tup xs) → H' b = some (.tup xs)) (frzs : ∀ b o u, H b = some (.frz o u) → H' b = some (.frz o u)) (tbls : ∀ b ps, H b = some (.tbl ps) → ∃ more, H' b = some (.tbl (ps ++ more)))
    (ns : ∀ m, s.heap.Ns X.env.locals m → h'.Ns X.env.locals m) (hok : HOk X.prog X.w H' h') (hg : AllBare g') :
    Inv X pins σ H' { s with heap := h', gens := g', drawn := d', toks := t' } := by
  have neL : ∀ b o, X.s₀.heap.get? b = some o → b ≠ X.env.locals := fun b o e => Nat.ne_of_lt (Nat.lt_of_lt_of_le (Heap.lt_size e) I.ok.above)
  have neC : ∀ b o, X.s₀.heap.get? b = some o → b ∉ X.ex → b ∉ ch := fun b o e hx hb => by
    rcases (hch b hb).1 with z | z
    · exact hx z
    · exact absurd (Nat.lt_of_lt_of_le (Heap.lt_size e) z) (Nat.lt_irrefl _)
  have cellK : ∀ x c, X.env.cells.lookup x = some c → ∀ v, s.heap.IsCell c v → h'.IsCell c v := fun x c e v ⟨o, ho, hd⟩ => by
    have nch : c ∉ ch := fun z => (hch c z).2.2.1 x c e rfl
    by_cases hc : c ∈ X.fs
    · obtain ⟨sl, q⟩ := slot c o (I.cne x c e) hc nch ho (I.freeC x c e)
      exact ⟨_, q, hd⟩
    · exact ⟨o, keep c o (I.cne x c e) hc nch ho (I.freeC x c e), hd⟩
  refine ⟨I.ok, I.os, hg, ⟨fun b o e n hb hx => ?_, fun b o e n hb hx => ?_, fun b o e n hx => ?_, fun b o e hx => ?_, fun b xs e => tups b xs (I.base.tups b xs e), fun b o xs e => frzs b o xs (I.base.frzs b o xs e), fun b ps e => ?_⟩, ?_, fun x c e => ?_, ?_, fun x c e => ?_, fun p hp => ?_, hok, I.len⟩
  · exact keep b o (neL b o e) hb (neC b o e hx) (I.base.keep b o e n hb hx) (I.base.free b o e n hx)
  · obtain ⟨sl, e1⟩ := I.base.slot b o e n hb hx
    obtain ⟨sl', e2⟩ := slot b _ (neL b o e) hb (neC b o e hx) e1 (I.base.free b o e n hx)
    exact ⟨sl', e2⟩
  · obtain ⟨o', e1⟩ := I.base.there b o e hx
    exact free b o' (neC b o e hx) e1 (I.base.free b o e n hx)
  · obtain ⟨o', e1⟩ := I.base.there b o e hx
    exact there b o' (neC b o e hx) e1
  · obtain ⟨m1, e1⟩ := I.base.tbls b ps e
    obtain ⟨m2, e2⟩ := tbls b _ e1
    exact ⟨m1 ++ m2, by rw [e2, Array.append_assoc]⟩
  · obtain ⟨m, hn, hl⟩ := I.loc
    refine ⟨m, ns m hn, fun i x v e1 e2 e3 => ?_⟩
    obtain ⟨u, r, l⟩ := hl i x v e1 e2 e3
    refine ⟨u, r, ?_⟩
    rcases l with l | ⟨k, c, e, z⟩
    · exact .inl l
    · exact .inr ⟨k, c, e, cellK x c e _ z⟩
  · obtain ⟨v, z⟩ := I.cell x c e
    exact ⟨v, cellK x c e v z⟩
  · obtain ⟨m, ⟨o, _, _, ho, _⟩, _⟩ := I.loc
    exact free _ o (fun z => (hch _ z).2.1 rfl) ho I.free
  · obtain ⟨v, o, ho, hd⟩ := I.cell x c e
    exact free c o (fun z => (hch c z).2.2.1 x c e rfl) ho (I.freeC x c e)
  · obtain ⟨e, n, ne, nf, d⟩ := I.pin p hp
    have nch : p.1 ∉ ch := fun z => (hch p.1 z).2.2.2 p hp rfl
    exact ⟨keep p.1 p.2 ne nf nch e n, free p.1 p.2 nch e n, ne, nf, d⟩

theorem Inv.un {t' : Nat} (I : Inv X pins σ H s) (u : Un X.fs [] H H' s.heap h') (hok : HOk X.prog X.w H' h') : Inv X pins σ H' { s with heap := h', toks := t' } := by
  obtain ⟨m, ⟨o, es, ep, ho, r⟩, _⟩ := id I.loc
  obtain ⟨sl, hL⟩ := u.any ho I.free (by simp)
  exact I.step (g' := s.gens) (d' := s.drawn) (ch := []) (fun _ z => nomatch z) (fun b o _ hb _ e n => u.keep b o e n hb (by simp)) (fun b o _ hb _ e n => u.slot b o e n hb (by simp)) (fun b o _ e n => u.free b o e n (by simp)) (fun b o _ e => u.there b o e (by simp)) u.tups u.frzs u.tbls (fun m' hm => by
    obtain ⟨o', es', ep', ho', r'⟩ := hm
    rw [ho] at ho'; cases ho'
    exact ⟨_, es', ep', hL, r'⟩) hok I.bare

theorem Inv.call {g' : Array GenState} {t' : Nat} {d' : Drawn} {ch : List Addr} (I : Inv X pins σ H s) (u : Un (frs X.stack) ch H H' s.heap h') (hok : HOk X.prog X.w H' h') (hg : AllBare g')
    (hch : ∀ b ∈ ch, (b ∈ X.ex ∨ X.s₀.heap.objs.size ≤ b) ∧ b ≠ X.env.locals ∧ (∀ x c, X.env.cells.lookup x = some c → c ≠ b) ∧ ∀ p ∈ X.pn ++ pins, p.1 ≠ b) :
    Inv X pins σ H' { s with heap := h', gens := g', drawn := d', toks := t' } := by
  obtain ⟨m, ⟨o, es, ep, ho, r⟩, _⟩ := id I.loc
  obtain ⟨sl, hL⟩ := u.any ho I.free fun z => (hch _ z).2.1 rfl
  exact I.step (ch := ch) hch (fun b o hL hb hc e n => u.keep b o e n (fun z => (List.mem_cons.mp (I.stkSub b z)).elim hL hb) hc) (fun b o _ _ hc e n => u.any e n hc) (fun b o hc e n => u.free b o e n hc) (fun b o hc e => u.there b o e hc) u.tups u.frzs u.tbls (fun m' hm => by
    obtain ⟨o', es', ep', ho', r'⟩ := hm
    rw [ho] at ho'; cases ho'
    exact ⟨_, es', ep', hL, r'⟩) hok hg

theorem Inv.turned {t' : Nat} {it : Addr} (I : Inv X pins σ H s) (k : ∀ b o, b ≠ it → s.heap.get? b = some o → h'.get? b = some o) (hn : H it = none) (hL : it ≠ X.env.locals)
    (h1 : it ∈ X.ex ∨ X.s₀.heap.objs.size ≤ it) (h2 : ∀ x c, X.env.cells.lookup x = some c → c ≠ it) (h3 : ∀ p ∈ X.pn ++ pins, p.1 ≠ it) : Inv X pins σ H { s with heap := h', toks := t' } := by
  have nit : ∀ b u, H b = some u → b ≠ it := fun b u e z => by rw [z, hn] at e; cases e
  refine I.step (g' := s.gens) (d' := s.drawn) (ch := [it]) (fun b hb => ?_) (fun b o _ _ hc e _ => k b o (fun z => hc (by simp [z])) e) (fun b o _ _ hc e _ => ⟨o.slots, k b o (fun z => hc (by simp [z])) e⟩) (fun _ _ _ _ n => n)
    (fun b o hc e => ⟨o, k b o (fun z => hc (by simp [z])) e⟩) (fun _ _ e => e) (fun _ _ _ e => e) (fun b ps e => ⟨#[], by rw [e]; simp⟩) (fun m hm => ?_) (fun b u e => ?_) I.bare
  · have e : b = it := by simpa using hb
    subst e
    exact ⟨h1, hL, h2, h3⟩
  · obtain ⟨o, es, ep, ho, r⟩ := hm
    exact ⟨o, es, ep, k _ o (Ne.symm hL) ho, r⟩
  · refine (I.hok b u e).stay (fun c v hc q => k c v ?_ q) (fun _ q => q) fun _ _ q => q
    rcases hc with z | z
    · rw [z]; exact nit b u e
    · exact nit c _ z
theorem Inv.tok (I : Inv X pins σ H s) (t : Nat) : Inv X pins σ H { s with toks := t } := I.un (h' := s.heap) (t' := t) Un.refl I.hok

theorem Inv.kept {t' : Nat} (I : Inv X pins σ H s) (k : ∀ b u, s.heap.get? b = some u → h'.get? b = some u) : Inv X pins σ H { s with heap := h', toks := t' } := I.un (Un.kept k) (I.hok.kept k)

theorem Inv.laid {a : Addr} {o : HO} {t' : Nat} (I : Inv X pins σ H s) (k : ∀ b u, s.heap.get? b = some u → h'.get? b = some u) (hp : s.heap.objs.size ≤ a) (new : ObjOk X.prog X.w (upd H a o) h' a o) :
    Inv X pins σ (upd H a o) { s with heap := h', toks := t' } := I.un (Un.laid k hp (I.hok.fresh hp)) (I.hok.laid k hp new)

theorem Inv.write {x e : Addr} {o : HO} {t' : Nat} (I : Inv X pins σ H s) (mu : Mut (H x)) (he : e = x ∨ H e = some (.own x)) (k : ∀ b u, b ≠ e → s.heap.get? b = some u → h'.get? b = some u) (heo : ∃ u, h'.get? e = some u)
    (new : ObjOk X.prog X.w (upd H x o) h' x o) : Inv X pins σ (upd H x o) { s with heap := h', toks := t' } := I.un (Un.write mu he k heo) (I.hok.write mu he k heo new)

theorem Inv.pins_of {pins' : List (Addr × Obj)} (I : Inv X pins σ H s) (h : ∀ p ∈ pins', s.heap.get? p.1 = some p.2 ∧ H p.1 = none ∧ p.1 ≠ X.env.locals ∧ p.1 ∉ X.fs ∧ ∀ v, p.2.data ≠ .cell v) : Inv X pins' σ H s :=
  ⟨I.ok, I.os, I.bare, I.base, I.loc, I.cell, I.free, I.freeC, fun p hp => (List.mem_append.mp hp).elim (fun z => I.pin p (List.mem_append_left _ z)) (h p), I.hok, I.len⟩

theorem nodup_ix {N : List Str} (hN : N.Nodup) {i j : Nat} {x : Str} (a : N[i]? = some x) (b : N[j]? = some x) : i = j := by
  obtain ⟨h1, e1⟩ := List.getElem?_eq_some_iff.mp a
  obtain ⟨h2, e2⟩ := List.getElem?_eq_some_iff.mp b
  exact (List.getElem_inj hN).mp (e1.trans e2.symm)


theorem store_ok2 {M : Model} {A : Around} {E : Value → Shared → Prop} {i : Nat} {x : Str} {v : V} {u : Value} {Q : Unit → Shared → Prop} (I : Inv X pins σ H s) (hN : X.N.Nodup) (hi : X.N[i]? = some x) (hx : Loc X.env.scope x) (r : RelV v u)
    (h : ∀ s', Inv X pins (σ.set i (some v)) H s' → (∃ a, Heap.SameBut a s.heap s'.heap ∧ (a = X.env.locals ∨ X.env.cells.lookup x = some a)) → Q () s') (hf : X.fn x = true ∨ X.env.scope.names.lookup x = some .local := by first | exact .inl rfl | exact .inr rfl | assumption) : wpAny M A (storeName X.env x u) Q E s := by
  obtain ⟨m, hn, hl⟩ := id I.loc
  have hcls : (X.env.scope.kind == .class || (X.env.scope.kind == .module && X.env.locals != X.env.globals)) = false := by rw [I.ok.kind]; rfl
  have hiσ : i < σ.length := by rw [I.len]; exact (List.getElem?_eq_some_iff.mp hi).1
  have cne := I.cne
  have tracked : ∀ {a : Addr} {h' : Heap}, (∃ o, s.heap.get? a = some o ∧ H a = none) → Heap.SameBut a s.heap h' → HOk X.prog X.w H h' := fun {a h'} ha hs b ob e => by
    obtain ⟨_, _, hfree⟩ := ha
    refine (I.hok b ob e).stay (fun c w' hc q => (hs.2 c ?_).trans q) (fun _ q => q) fun _ _ q => q
    rintro rfl
    rcases hc with rfl | hc
    · rw [hfree] at e; cases e
    · rw [hfree] at hc; cases hc
  rcases hx with hk | hk
  · refine wpAny_storeName_local hk hn (fun h' hn' hs => ?_) hcls
    obtain ⟨oL, _, _, hoL, _⟩ := id hn
    refine h _ ⟨I.ok, I.os, I.bare, ⟨fun b o e n hb hx => ?_, fun b o e n hb hx => ?_, I.base.free, fun b o e hx => ?_, I.base.tups, I.base.frzs, I.base.tbls⟩, ⟨_, hn', fun j y v' e1 e2 e3 => ?_⟩, fun y c e => ?_, I.free, I.freeC, fun p hp => ?_, tracked ⟨oL, hoL, I.free⟩ hs, by simpa using I.len⟩ ⟨_, hs, .inl rfl⟩
    · exact (hs.2 b (Nat.ne_of_lt (Nat.lt_of_lt_of_le (Heap.lt_size e) I.ok.above))).trans (I.base.keep b o e n hb hx)
    · obtain ⟨sl, e1⟩ := I.base.slot b o e n hb hx
      exact ⟨sl, (hs.2 b (Nat.ne_of_lt (Nat.lt_of_lt_of_le (Heap.lt_size e) I.ok.above))).trans e1⟩
    · obtain ⟨o', e1⟩ := I.base.there b o e hx
      exact ⟨o', (hs.2 b (Nat.ne_of_lt (Nat.lt_of_lt_of_le (Heap.lt_size e) I.ok.above))).trans e1⟩
    · by_cases hj : j = i
      · subst hj
        rw [hi] at e1; cases e1
        rw [List.getElem?_set_self hiσ] at e2
        cases e2
        exact ⟨u, r, .inl ⟨hk, by simp⟩⟩
      · rw [List.getElem?_set_ne (Ne.symm hj)] at e2
        obtain ⟨u', r', q⟩ := hl j y v' e1 e2 e3
        refine ⟨u', r', ?_⟩
        rcases q with ⟨k, e⟩ | ⟨k, c, e, z⟩
        · refine .inl ⟨k, ?_⟩
          have : y ≠ x := fun e => hj (nodup_ix hN e1 (e ▸ hi))
          simp [this, e]
        · exact .inr ⟨k, c, e, z.sameBut hs (cne y c e)⟩
    · obtain ⟨w', z⟩ := I.cell y c e
      exact ⟨w', z.sameBut hs (cne y c e)⟩
    · obtain ⟨e, n, ne, nf, d⟩ := I.pin p hp
      exact ⟨(hs.2 p.1 ne).trans e, n, ne, nf, d⟩
  · have hfn : X.fn x = true := by
      rcases hf with z | z
      · exact z
      · rw [z] at hk; cases hk
    obtain ⟨c, hc⟩ := I.ok.has x (.inl hk)
    obtain ⟨w', z⟩ := I.cell x c hc
    refine wpAny_storeName_cell I.ok.kind hk hc z (fun h' hc' hs => ?_)
    obtain ⟨oc, hoc, hocd⟩ := id z
    refine h { s with heap := h' } ⟨I.ok, I.os, I.bare, ⟨fun b o e n hb hx => ?_, fun b o e n hb hx => ?_, I.base.free, fun b o e hx => ?_, I.base.tups, I.base.frzs, I.base.tbls⟩, ⟨m, hn.sameBut hs (Ne.symm (cne x c hc)), fun j y v' e1 e2 e3 => ?_⟩, fun y c' e => ?_, I.free, I.freeC, fun p hp => ?_, tracked ⟨oc, hoc, I.freeC x c hc⟩ hs, by simpa using I.len⟩ ⟨c, hs, .inr hc⟩
    · exact (hs.2 b (Nat.ne_of_lt (Nat.lt_of_lt_of_le (Heap.lt_size e) (I.ok.cab x c hfn hc)))).trans (I.base.keep b o e n hb hx)
    · obtain ⟨sl, e1⟩ := I.base.slot b o e n hb hx
      exact ⟨sl, (hs.2 b (Nat.ne_of_lt (Nat.lt_of_lt_of_le (Heap.lt_size e) (I.ok.cab x c hfn hc)))).trans e1⟩
    · obtain ⟨o', e1⟩ := I.base.there b o e hx
      exact ⟨o', (hs.2 b (Nat.ne_of_lt (Nat.lt_of_lt_of_le (Heap.lt_size e) (I.ok.cab x c hfn hc)))).trans e1⟩
    · by_cases hj : j = i
      · subst hj
        rw [hi] at e1; cases e1
        rw [List.getElem?_set_self hiσ] at e2
        cases e2
        exact ⟨u, r, .inr ⟨.inl hk, c, hc, hc'⟩⟩
      · rw [List.getElem?_set_ne (Ne.symm hj)] at e2
        obtain ⟨u', r', q⟩ := hl j y v' e1 e2 e3
        refine ⟨u', r', ?_⟩
        rcases q with q | ⟨k, c', e, z'⟩
        · exact .inl q
        · refine .inr ⟨k, c', e, z'.sameBut hs ?_⟩
          rintro rfl
          exact hj (nodup_ix hN e1 (I.ok.inj _ _ _ e hc ▸ hi))
    · by_cases hcc : c' = c
      · subst hcc; exact ⟨_, hc'⟩
      · obtain ⟨w2, z2⟩ := I.cell y c' e
        exact ⟨w2, z2.sameBut hs hcc⟩
    · obtain ⟨e, n, ne, nf, d⟩ := I.pin p hp
      refine ⟨(hs.2 p.1 ?_).trans e, n, ne, nf, d⟩
      intro q
      rw [q, hoc] at e
      have q' : oc = p.2 := Option.some.inj e
      exact d w' (by rw [← q']; exact hocd)
theorem store_ok {M : Model} {A : Around} {E : Value → Shared → Prop} {i : Nat} {x : Str} {v : V} {u : Value} {Q : Unit → Shared → Prop} (I : Inv X pins σ H s) (hN : X.N.Nodup) (hi : X.N[i]? = some x) (hx : Loc X.env.scope x) (r : RelV v u)
    (h : ∀ s', Inv X pins (σ.set i (some v)) H s' → Q () s') (hf : X.fn x = true ∨ X.env.scope.names.lookup x = some .local := by first | exact .inl rfl | exact .inr rfl | assumption) : wpAny M A (storeName X.env x u) Q E s :=
  store_ok2 I hN hi hx r (fun s' I' _ => h s' I') hf

theorem Inv.call' {s' : Shared} {ch : List Addr} (I : Inv X pins σ H s) (ho : s'.os = s.os) (u : Un (frs X.stack) ch H H' s.heap s'.heap) (hok : HOk X.prog X.w H' s'.heap) (hg : AllBare s'.gens)
    (hch : ∀ b ∈ ch, (b ∈ X.ex ∨ X.s₀.heap.objs.size ≤ b) ∧ b ≠ X.env.locals ∧ (∀ x c, X.env.cells.lookup x = some c → c ≠ b) ∧ ∀ p ∈ X.pn ++ pins, p.1 ≠ b) : Inv X pins σ H' s' := by
  obtain ⟨h', g', d', t', o'⟩ := s'
  have e : o' = s.os := ho
  subst e
  exact I.call (g' := g') (t' := t') (d' := d') u hok hg hch
end



abbrev XK := Value → Option Addr → Hp → Prop
abbrev St := List (Option V)
abbrev VK := V → Hp → Prop

abbrev TE := St → Hp → VK → Prop
abbrev TT := St → Hp → (Bool → Hp → Prop) → Prop
abbrev TA := St → Hp → (List V → Hp → Prop) → Prop

structure Ends where
  nx : St → Hp → Prop
  rt : VK
  bk : St → Hp → Prop := fun _ _ => False
  ct : St → Hp → Prop := fun _ _ => False
abbrev TS := Ends → St → Hp → Prop

def EP (X : Cx) (pins : List (Addr × Obj)) (σ : St) (Q : VK) (u : Value) (s' : Shared) : Prop := ∃ v H', Inv X pins σ H' s' ∧ RelV v u ∧ Q v H'
def TP (X : Cx) (pins : List (Addr × Obj)) (σ : St) (Q : Bool → Hp → Prop) (b : Bool) (s' : Shared) : Prop := ∃ H', Inv X pins σ H' s' ∧ Q b H'
def AP (X : Cx) (pins : List (Addr × Obj)) (σ : St) (Q : List V → Hp → Prop) (us : List Value) (s' : Shared) : Prop := ∃ vs H', Inv X pins σ H' s' ∧ Vals vs us ∧ Q vs H'
def SP (X : Cx) (pins : List (Addr × Obj)) (D : Ends) (f : Flow) (s' : Shared) : Prop :=
  match f with
  | .next => ∃ σ' H', Inv X pins σ' H' s' ∧ D.nx σ' H'
  | .brk => ∃ σ' H', Inv X pins σ' H' s' ∧ D.bk σ' H'
  | .cont => ∃ σ' H', Inv X pins σ' H' s' ∧ D.ct σ' H'
  | .ret u => ∃ v σ' H', Inv X pins σ' H' s' ∧ RelV v u ∧ D.rt v H'

def PE (X : Cx) (e : Expr) (t : TE) : Prop :=
  ∀ (pins : List (Addr × Obj)) (s : Shared) (σ : St) (H : Hp) (Q : VK), Inv X pins σ H s → t σ H Q → wpAny (model X.prog X.w) X.A (eval e X.env) (EP X pins σ Q) X.xe s
def PT (X : Cx) (e : Expr) (t : TT) : Prop :=
  ∀ (pins : List (Addr × Obj)) (s : Shared) (σ : St) (H : Hp) (Q : Bool → Hp → Prop), Inv X pins σ H s → t σ H Q → wpAny (model X.prog X.w) X.A (isTrue e X.env (eval e X.env)) (TP X pins σ Q) X.xe s

def PW (X : Cx) (e : Expr) (t : TT) : Prop :=
  ∀ (whole : Sem Value) (pins : List (Addr × Obj)) (s : Shared) (σ : St) (H : Hp) (Q : Bool → Hp → Prop), Inv X pins σ H s → t σ H Q → wpAny (model X.prog X.w) X.A (isTrue e X.env whole) (TP X pins σ Q) X.xe s
theorem PW.pt {X : Cx} {e : Expr} {t : TT} (h : PW X e t) : PT X e t := h _

def PA (X : Cx) (es : List Expr) (t : TA) : Prop :=
  ∀ (pos : Pos) (pins : List (Addr × Obj)) (s : Shared) (σ : St) (H : Hp) (Q : List V → Hp → Prop), Inv X pins σ H s → t σ H Q → wpAny (model X.prog X.w) X.A (spliced (backTo pos (starEach es X.env))) (AP X pins σ Q) X.xe s
def PS (X : Cx) (st : Stmt) (t : TS) : Prop :=
  ∀ (pins : List (Addr × Obj)) (s : Shared) (σ : St) (H : Hp) (D : Ends), Inv X pins σ H s → t D σ H → wpAny (model X.prog X.w) X.A (exec st X.env) (SP X pins D) X.xe s
def PSs (X : Cx) (st : List Stmt) (t : TS) : Prop :=
  ∀ (pins : List (Addr × Obj)) (s : Shared) (σ : St) (H : Hp) (D : Ends), Inv X pins σ H s → t D σ H → wpAny (model X.prog X.w) X.A (execs st X.env) (SP X pins D) X.xe s

theorem thn {α : Type} {t : Sem α} {Q Q' : α → Shared → Prop} {M : Model} {A : Around} {E : Value → Shared → Prop} {s : Shared} (h : wpAny M A t Q E s) (hQ : ∀ a s, Q a s → Q' a s) : wpAny M A t Q' E s := wpAny_mono h hQ fun _ _ x => x
end L2

namespace L2
open PySem PySem.Spec PyProof.Rows
section
variable {X : Cx}


inductive tVar_ (i : Nat) (σ : St) (H : Hp) (Q : VK) : Prop where
  | mk (v : _) (h0_ : σ[i]? = some (some v)) (h1_ : Q v H) : tVar_ i σ H Q
def tVar (i : Nat) : TE := fun σ H Q => tVar_ i σ H Q
def tC (v : V) : TE := fun _ H Q => Q v H
theorem pe_var {i : Nat} {x : Str} {pos : Pos} (hN : X.N[i]? = some x) (hv : Vis X.env.scope x) (hd : (x == ("__debug__" : Str)) = false := by decide) (hcd : (x == ("__classdict__" : Str)) = false := by decide) : PE X (.Name x pos) (tVar i) := by
  intro pins s σ H Q I h
  obtain ⟨v, e, h⟩ := h
  obtain ⟨m, hn, hl⟩ := I.loc
  obtain ⟨u, r, l⟩ := hl i x v hN e hv
  have fin : EP X pins σ Q u s := ⟨v, H, I, r, h⟩
  rcases l with ⟨hk, hm⟩ | ⟨hk, c, hc, hcell⟩
  · exact wpAny_Name (wpAny_loadName_local I.ok.kind hk hn hm fin) hd
  · rcases hk with hk | hk
    · exact wpAny_Name (wpAny_loadName_cell I.ok.kind hk hc hcell fin) hd
    · exact wpAny_Name (wpAny_loadName_free I.ok.kind hk hc hcell fin hcd) hd
theorem pe_int {i j pos} : PE X (.Constant (.int i) j pos) (tC (.int i)) := fun _ _ _ H _ I h => wpAny_Constant_int ⟨.int i, H, I.tok _, ⟨_, rfl⟩, h⟩
theorem pe_bl {b j pos} : PE X (.Constant (.bool b) j pos) (tC (.bl b)) := fun _ _ _ H _ I h => Constant_bool ⟨.bl b, H, I, rfl, h⟩
theorem pe_non {j pos} : PE X (.Constant .none j pos) (tC .non) := fun _ _ _ H _ I h => Constant_none ⟨.non, H, I, rfl, h⟩
def Gl (X : Cx) (x : Str) : Prop := X.env.kindOf x = some .globalImplicit
theorem ld_glob {E : Value → Shared → Prop} {pins : List (Addr × Obj)} {s : Shared} {σ : St} {H : Hp} {x : Str} {u : Value} {pos : Pos} {Q : Value → Shared → Prop} (I : Inv X pins σ H s) (hg : Gl X x) (hm : X.mg x = some u) (h : Q u s)
    (hd : (x == ("__debug__" : Str)) = false := by decide) : wpAny (model X.prog X.w) X.A (eval (.Name x pos) X.env) Q E s :=
  Calls.Name_function_global I.ok.kind hg (Calls.loadGlobal_global (by rw [I.ok.glob]; exact I.mod.glob.keeps I.bk) hm h) hd
theorem ld_blt {E : Value → Shared → Prop} {pins : List (Addr × Obj)} {s : Shared} {σ : St} {H : Hp} {x : Str} {u : Value} {pos : Pos} {Q : Value → Shared → Prop} (I : Inv X pins σ H s) (hg : Gl X x) (hm : X.mg x = none) (hv : bootBuiltins x = some u) (h : Q u s)
    (hn : x ≠ "__name__" := by decide) (hd : (x == ("__debug__" : Str)) = false := by decide) : wpAny (model X.prog X.w) X.A (eval (.Name x pos) X.env) Q E s := by
  obtain ⟨mb, h1, h2⟩ := I.mod.blt
  exact Calls.Name_function_global I.ok.kind hg (Calls.loadGlobal_builtin (by rw [I.ok.glob]; exact I.mod.glob.keeps I.bk) hm (by rw [I.ok.blt]; exact h1.keeps I.bk) ((h2 x hn).trans hv) h) hd

theorem pe_glob {x : Str} {v : V} {u : Value} {pos : Pos} (hg : Gl X x) (hm : X.mg x = some u) (r : RelV v u) (hd : (x == ("__debug__" : Str)) = false := by decide) : PE X (.Name x pos) (tC v) :=
  fun _ _ _ H _ I h => ld_glob I hg hm ⟨v, H, I, r, h⟩ hd
theorem pe_bltn {x : Str} {v : V} {u : Value} {pos : Pos} (hg : Gl X x) (hm : X.mg x = none) (hv : bootBuiltins x = some u) (r : RelV v u) (hn : x ≠ "__name__" := by decide) (hd : (x == ("__debug__" : Str)) = false := by decide) : PE X (.Name x pos) (tC v) :=
  fun _ _ _ H _ I h => ld_blt I hg hm hv ⟨v, H, I, r, h⟩ hn hd



variable {a b : Expr} {ta tb : TE} {pos : Pos}
inductive tB_ (Q : Bool → Hp → Prop) (x : V) (H1 : Hp) : Prop where
  | mk (c : _) (h0_ : x = .bl c) (h1_ : Q c H1) : tB_ Q x H1
def tB (t : TE) : TT := fun σ H Q => t σ H fun x H1 => tB_ Q x H1
theorem pt_val {e : Expr} {t : TE} (h : PE X e t) (he : ∀ whole, isTrue e X.env whole = (do let v ← whole; standAt e.pos; holding [v] (truthy v)) := by intro _; rfl) : PT X e (tB t) := by
  intro pins s σ H Q I hw
  refine isTrue_plain (thn (h pins s σ H _ I hw) fun v s1 ⟨x, H1, I1, r1, q1⟩ => ?_) (he _)
  obtain ⟨d, rfl, q⟩ := q1
  cases r1
  exact wpAny_truthy_bool ⟨H1, I1, q⟩


variable {tA tB' : TT} {rest : List Expr}
def tAnd (t u : TT) : TT := fun σ H Q => t σ H fun c H1 => if c = true then u σ H1 Q else Q false H1
def tOr (t u : TT) : TT := fun σ H Q => t σ H fun c H1 => if c = true then Q true H1 else u σ H1 Q
def tNot (t : TT) : TT := fun σ H Q => t σ H fun c H1 => Q (!c) H1
theorem pw_and1 (ha : PT X a tA) : PW X (.BoolOp .And [a] pos) tA := by
  intro wh pins s σ H Q I h
  refine isTrue_and (thn (ha pins s σ H Q I h) fun c s1 e => ?_)
  cases c with
  | true => exact isTrue_and_nil e
  | false => exact e
theorem pw_or1 (ha : PT X a tA) : PW X (.BoolOp .Or [a] pos) tA := by
  intro wh pins s σ H Q I h
  refine isTrue_or (thn (ha pins s σ H Q I h) fun c s1 e => ?_)
  cases c with
  | false => exact isTrue_or_nil e
  | true => exact e
theorem pw_and (ha : PT X a tA) (hb : PW X (.BoolOp .And (b :: rest) pos) tB') : PW X (.BoolOp .And (a :: b :: rest) pos) (tAnd tA tB') := by
  intro wh pins s σ H Q I h
  refine isTrue_and (thn (ha pins s σ H _ I h) fun c s1 ⟨H1, I1, q1⟩ => ?_)
  cases c with
  | true => exact hb wh pins s1 σ H1 Q I1 q1
  | false => exact ⟨H1, I1, q1⟩
theorem pw_or (ha : PT X a tA) (hb : PW X (.BoolOp .Or (b :: rest) pos) tB') : PW X (.BoolOp .Or (a :: b :: rest) pos) (tOr tA tB') := by
  intro wh pins s σ H Q I h
  refine isTrue_or (thn (ha pins s σ H _ I h) fun c s1 ⟨H1, I1, q1⟩ => ?_)
  cases c with
  | true => exact ⟨H1, I1, q1⟩
  | false => exact hb wh pins s1 σ H1 Q I1 q1
theorem pt_not (ha : PT X a tA) : PT X (.UnaryOp .Not a pos) (tNot tA) := by
  intro pins s σ H Q I h
  exact isTrue_not (ha pins s σ H (fun c H1 => Q (!c) H1) I h)

def tAndV (ta tb : TE) : TE := fun σ H Q => ta σ H fun x H1 => ∃ c, x = .bl c ∧ if c = true then tb σ H1 Q else Q (.bl false) H1
theorem pe_one {op} {t : TE} (h : PE X a t) : PE X (.BoolOp op [a] pos) t := fun pins s σ H Q I hw => BoolOp_one (h pins s σ H Q I hw)
theorem pe_and (ha : PE X a ta) (hb : PE X (.BoolOp .And (b :: rest) pos) tb) : PE X (.BoolOp .And (a :: b :: rest) pos) (tAndV ta tb) := by
  intro pins s σ H Q I h
  refine BoolOp_and (thn (ha pins s σ H _ I h) fun v s1 ⟨x, H1, I1, r1, q1⟩ => ?_)
  obtain ⟨c, rfl, q1⟩ := q1
  cases r1
  refine wpAny_truthy_bool ?_
  cases c with
  | true => exact hb pins s1 σ H1 Q I1 q1
  | false => exact ⟨.bl false, H1, I1, rfl, q1⟩
end
end L2

namespace L2
open PySem PySem.Spec PyProof.Rows


def SqL (K : PySem.W.Frag) (H : Hp) (a : Addr) (xs : List V) : Prop :=
  Rd H a (.lst xs) ∨
    ∃ (o : Obj) (its : Array Value) (n : Nat), K.lookup a = some o ∧ o.cls = .type "list" ∧ o.dict = none ∧ o.data = .seq its n ∧ its.size ≤ sizeLine ∧ Vals xs its.toList
def SqT (K : PySem.W.Frag) (H : Hp) (a : Addr) (xs : List V) : Prop :=
  Rd H a (.tup xs) ∨
    ∃ (o : Obj) (its : Array Value) (n : Nat), K.lookup a = some o ∧ o.cls = .type "tuple" ∧ o.data = .seq its n ∧ its.size ≤ sizeLine ∧ Vals xs its.toList
def absV : Value → Option V
  | .none => some .non
  | .bool b => some (.bl b)
  | .int i _ => some (.int i)
  | .str x _ => some (.str x)
  | .bytes b _ => some (.byt b)
  | .float b _ => some (.flt b)
  | .ref a => some (.ref a)
  | .type n => some (.ty n)
  | _ => none
theorem RelV.abs {x : V} {u : Value} (r : RelV x u) : absV u = some x := by
  cases x with
  | non => cases r; rfl
  | bl _ => cases r; rfl
  | int _ => obtain ⟨t, rfl⟩ := r; rfl
  | str _ => obtain ⟨t, rfl⟩ := r; rfl
  | byt _ => obtain ⟨t, rfl⟩ := r; rfl
  | flt _ => obtain ⟨t, rfl⟩ := r; rfl
  | ref _ => cases r; rfl
  | ty _ => cases r; rfl
theorem RelV.inj {x y : V} {u : Value} (r : RelV x u) (q : RelV y u) : x = y := Option.some.inj (r.abs.symm.trans q.abs)
theorem Vals.inj : ∀ {xs ys : List V} {us : List Value}, Vals xs us → Vals ys us → xs = ys
  | _, _, _, .nil, .nil => rfl
  | _, _, _, .cons r t, .cons r' t' => by rw [r.inj r', Vals.inj t t']
section
variable {X : Cx} {pins : List (Addr × Obj)} {σ : St} {H : Hp} {s : Shared} {a : Addr} {xs ys : List V}
theorem SqL.of {K : PySem.W.Frag} (h : H a = some (.lst xs)) : SqL K H a xs := .inl (.inl h)
theorem SqT.of {K : PySem.W.Frag} (h : H a = some (.tup xs)) : SqT K H a xs := .inl (.inl h)
theorem Inv.list (I : Inv X pins σ H s) (h : SqL X.K H a xs) : ∃ its : List Value, Vals xs its ∧ PlainL s.heap a its.toArray ∧ xs.length ≤ sizeLine := by
  rcases h with h | ⟨o, its, n, hk, hc, hd, hs, hz, r⟩
  · obtain ⟨z, its, n, r, e⟩ := h.ok I.hok
    exact ⟨its, r, ⟨_, n, e, rfl, rfl, rfl⟩, z⟩
  · refine ⟨its.toList, r, ⟨o, n, I.kIn a o hk, hc, hd, by simpa using hs⟩, ?_⟩
    have e := r.length
    simp only [Array.length_toList] at e
    lia
theorem Inv.tuple (I : Inv X pins σ H s) (h : SqT X.K H a xs) : ∃ its : List Value, Vals xs its ∧ IsTup s.heap a its.toArray ∧ xs.length ≤ sizeLine := by
  rcases h with h | ⟨o, its, n, hk, hc, hs, hz, r⟩
  · obtain ⟨z, its, r, p⟩ := h.ok I.hok
    exact ⟨its, r, p, z⟩
  · refine ⟨its.toList, r, ⟨o, I.kIn a o hk, hc, n, by simpa using hs⟩, ?_⟩
    have e := r.length
    simp only [Array.length_toList] at e
    lia
theorem Inv.list_inj (I : Inv X pins σ H s) (h : SqL X.K H a xs) (h' : SqL X.K H a ys) : xs = ys := by
  obtain ⟨its, r, ⟨o, n, e, _, _, d⟩, _⟩ := I.list h
  obtain ⟨its', r', ⟨o', n', e', _, _, d'⟩, _⟩ := I.list h'
  rw [e] at e'; cases e'
  rw [d] at d'
  injection d' with d1 _
  have : its = its' := by simpa using congrArg Array.toList d1
  subst this
  exact r.inj r'
end


abbrev Cx.wish (X : Cx) (E : Value → Shared → Prop) : Cx := { X with xe := E }

abbrev Cx.nox (X : Cx) : Cx := X.wish fun _ _ => False
theorem Cx.Ok.wish {X : Cx} (ok : X.Ok) (E : Value → Shared → Prop) : (X.wish E).Ok :=
  ⟨ok.mod, ok.kind, ok.glob, ok.blt, ok.above, ok.inj, ok.has, ok.cab, ok.hd, ok.frames, ok.stk, ok.exf, ok.bs, ok.bsz, ok.noex, ok.exfs, ok.funs, ok.frf⟩
theorem Cx.Ok.unwish {X : Cx} {E : Value → Shared → Prop} (ok : (X.wish E).Ok) : X.Ok :=
  ⟨ok.mod, ok.kind, ok.glob, ok.blt, ok.above, ok.inj, ok.has, ok.cab, ok.hd, ok.frames, ok.stk, ok.exf, ok.bs, ok.bsz, ok.noex, ok.exfs, ok.funs, ok.frf⟩
section
variable {X : Cx} {pins : List (Addr × Obj)} {σ : St} {H : Hp} {s : Shared} {E : Value → Shared → Prop}
theorem Inv.wish (I : Inv X pins σ H s) (E : Value → Shared → Prop) : Inv (X.wish E) pins σ H s := ⟨I.ok.wish E, I.os, I.bare, I.base, I.loc, I.cell, I.free, I.freeC, I.pin, I.hok, I.len⟩
theorem Inv.unwish (I : Inv (X.wish E) pins σ H s) : Inv X pins σ H s := ⟨I.ok.unwish, I.os, I.bare, I.base, I.loc, I.cell, I.free, I.freeC, I.pin, I.hok, I.len⟩
theorem SP.unwish {D : Ends} {f : Flow} {s' : Shared} (h : SP (X.wish E) pins D f s') : SP X pins D f s' := by
  cases f with
  | next => obtain ⟨σ', H', I, q⟩ := h; exact ⟨σ', H', I.unwish, q⟩
  | brk => obtain ⟨σ', H', I, q⟩ := h; exact ⟨σ', H', I.unwish, q⟩
  | cont => obtain ⟨σ', H', I, q⟩ := h; exact ⟨σ', H', I.unwish, q⟩
  | ret u => obtain ⟨v, σ', H', I, r, q⟩ := h; exact ⟨v, σ', H', I.unwish, r, q⟩
theorem PE.nox {e : Expr} {t : TE} (h : PE X.nox e t) : PE X e t := fun pins s σ H Q I hw =>
  wpAny_mono (h pins s σ H Q (I.wish _) hw) (fun _ _ ⟨v, H', I', r, q⟩ => ⟨v, H', I'.unwish, r, q⟩) fun _ _ z => False.elim z
theorem PT.nox {e : Expr} {t : TT} (h : PT X.nox e t) : PT X e t := fun pins s σ H Q I hw =>
  wpAny_mono (h pins s σ H Q (I.wish _) hw) (fun _ _ ⟨H', I', q⟩ => ⟨H', I'.unwish, q⟩) fun _ _ z => False.elim z
theorem PSs.nox {st : List Stmt} {t : TS} (h : PSs X.nox st t) : PSs X st t := fun pins s σ H D I hw =>
  wpAny_mono (h pins s σ H D (I.wish _) hw) (fun _ _ q => q.unwish) fun _ _ z => False.elim z
end


section
variable {X : Cx} {st : Stmt} {rest : List Stmt} {t u : TS} {e : Expr} {te : TE} {pos : Pos}
def tNext : TS := fun D σ H => D.nx σ H
def tSeq (t u : TS) : TS := fun D σ H => t { D with nx := u D } σ H
theorem pss_nil : PSs X [] tNext := fun _ _ σ H _ I h => wpAny_execs_nil ⟨σ, H, I, h⟩
theorem pss_cons (h1 : PS X st t) (h2 : PSs X rest u) : PSs X (st :: rest) (tSeq t u) := by
  intro pins s σ H D I h
  refine wpAny_execs_cons (thn (h1 pins s σ H { D with nx := u D } I h) fun f s1 q => ?_)
  cases f with
  | next =>
    obtain ⟨σ', H', I', q⟩ := q
    exact h2 pins s1 σ' H' D I' q
  | ret v => exact q
  | brk => exact q
  | cont => exact q
theorem pss_one (h1 : PS X st t) : PSs X [st] t := by
  intro pins s σ H D I h
  refine wpAny_execs_cons (thn (h1 pins s σ H D I h) fun f s1 q => ?_)
  cases f with
  | next => exact wpAny_execs_nil q
  | ret v => exact q
  | brk => exact q
  | cont => exact q
def tBreak : TS := fun D σ H => D.bk σ H
theorem ps_break : PS X (.Break pos) tBreak := fun _ _ σ H _ I h => wpAny_Break ⟨σ, H, I, h⟩
theorem Inv.quiet {pins : List (Addr × Obj)} {σ : St} {H : Hp} {s : Shared} (I : Inv X pins σ H s) : interactive X.env = false := by simp [interactive, I.ok.kind]

def tDrop (te : TE) : TS := fun D σ H => te σ H fun _ H1 => D.nx σ H1
theorem ps_expr (he : PE X e te) (hs : swapsWith e none pos.line X.env = pure false := by rfl) : PS X (.Expr e pos) (tDrop te) := by
  intro pins s σ H D I h
  exact wpAny_Expr_any (thn (he pins s σ H _ I h) fun v s1 ⟨x, H1, I1, r1, q1⟩ => ⟨σ, H1, I1, q1⟩) I.quiet hs
def tRet (te : TE) : TS := fun D σ H => te σ H D.rt
theorem ps_ret (he : PE X e te) : PS X (.Return (some e) pos) (tRet te) := by
  intro pins s σ H D I h
  exact wpAny_Return_some (thn (he pins s σ H _ I h) fun v s1 ⟨x, H1, I1, r1, q1⟩ => ⟨x, σ, H1, I1, r1, q1⟩)
def tIfS (c : TT) (t u : TS) : TS := fun D σ H => c σ H fun b H1 => if b = true then t D σ H1 else u D σ H1
theorem ps_if {c : Expr} {a b : List Stmt} {tc : TT} (hc : PT X c tc) (ha : PSs X a t) (hb : PSs X b u) : PS X (.If c a b pos) (tIfS tc t u) := by
  intro pins s σ H D I h
  refine wpAny_If (thn (hc pins s σ H _ I h) fun d s1 ⟨H1, I1, q1⟩ => ?_)
  cases d with
  | true => exact ha pins s1 σ H1 D I1 q1
  | false => exact hb pins s1 σ H1 D I1 q1

end


abbrev TG := V → St → Hp → (St → Hp → Prop) → Prop
def PG (X : Cx) (target : Expr) (t : TG) : Prop :=
  ∀ (pins : List (Addr × Obj)) (s : Shared) (σ : St) (H : Hp) (v : V) (u : Value) (Q : St → Hp → Prop), Inv X pins σ H s → RelV v u → t v σ H Q →
    wpAny (model X.prog X.w) X.A (assign target X.env u) (fun _ s' => ∃ σ' H', Inv X pins σ' H' s' ∧ Q σ' H') X.xe s

abbrev TIp := V → V → Hp → VK → Prop
def PIp (X : Cx) (op : Operator) (t : TIp) : Prop :=
  ∀ (pins : List (Addr × Obj)) (s : Shared) (σ : St) (H : Hp) (x y : V) (v u : Value) (Q : VK), Inv X pins σ H s → RelV x v → RelV y u → t x y H Q →
    wpAny (model X.prog X.w) X.A (inplaceOp op v u) (EP X pins σ Q) X.xe s
section
variable {X : Cx} {pos : Pos}
def gName (i : Nat) : TG := fun v σ H Q => Q (σ.set i (some v)) H
theorem pg_name {i : Nat} {x : Str} (hN : X.N.Nodup) (hi : X.N[i]? = some x) (hx : Loc X.env.scope x) (hf : X.fn x = true ∨ X.env.scope.names.lookup x = some .local := by first | exact .inl rfl | exact .inr rfl | assumption) : PG X (.Name x pos) (gName i) := by
  intro pins s σ H v u Q I r h
  exact wpAny_assign_Name (store_ok I hN hi hx r (fun s' I' => ⟨_, H, I', h⟩) hf)
def tAsg (te : TE) (g : TG) : TS := fun D σ H => te σ H fun x H1 => g x σ H1 D.nx
theorem ps_set {i : Nat} {x : Str} {e : Expr} {te : TE} {pos' : Pos} (hN : X.N.Nodup) (hi : X.N[i]? = some x) (hx : Loc X.env.scope x) (he : PE X e te) (hs : swapsWith e (some (.Name x pos')) pos.line X.env = pure false := by rfl) (hf : X.fn x = true ∨ X.env.scope.names.lookup x = some .local := by first | exact .inl rfl | exact .inr rfl | assumption) :
    PS X (.Assign [.Name x pos'] e pos) (tAsg te (gName i)) := by
  intro pins s σ H D I h
  refine wpAny_Assign_Name (thn (he pins s σ H _ I h) fun v s1 ⟨y, H1, I1, r1, q1⟩ => ?_) hs
  exact store_ok I1 hN hi hx r1 (fun s2 I2 => ⟨_, H1, I2, q1⟩) hf

def tAug (i : Nat) (te : TE) (ti : TIp) : TS := fun D σ H => ∃ x, σ[i]? = some (some x) ∧ te σ H fun y H1 => ti x y H1 fun z H2 => D.nx (σ.set i (some z)) H2
theorem ps_aug {i : Nat} {x : Str} {e : Expr} {te : TE} {op : Operator} {ti : TIp} {pos' : Pos} (hN : X.N.Nodup) (hi : X.N[i]? = some x) (hx : Loc X.env.scope x) (he : PE X e te) (ho : PIp X op ti) (hf : X.fn x = true ∨ X.env.scope.names.lookup x = some .local := by first | exact .inl rfl | exact .inr rfl | assumption) :
    PS X (.AugAssign (.Name x pos') op e pos) (tAug i te ti) := by
  intro pins s σ H D I h
  obtain ⟨v, e1, h⟩ := h
  obtain ⟨m, hn, hl⟩ := I.loc
  have vis : Vis X.env.scope x := by rcases hx with k | k; exact .inl k; exact .inr (.inl k)
  obtain ⟨u, r, l⟩ := hl i x v hi e1 vis
  refine wpAny_AugAssign_Name ?_
  have go : wpAny (model X.prog X.w) X.A (eval e X.env) (fun w s₂ => wpAny (model X.prog X.w) X.A (inplaceOp op u w) (fun r s₃ => wpAny (model X.prog X.w) X.A (storeName X.env x r) (fun _ => SP X pins D .next) X.xe s₃) X.xe s₂) X.xe s := by
    refine thn (he pins s σ H _ I h) fun w s1 ⟨y, H1, I1, r1, q1⟩ => ?_
    refine thn (ho pins s1 σ H1 v y u w _ I1 r r1 q1) fun z s2 ⟨zv, H2, I2, r2, q2⟩ => ?_
    exact store_ok I2 hN hi hx r2 (fun s3 I3 => ⟨_, H2, I3, q2⟩) hf
  rcases l with ⟨hk, hm⟩ | ⟨hk, c, hc, hcell⟩
  · exact wpAny_loadName_local I.ok.kind hk hn hm go
  · rcases hk with hk | hk
    · exact wpAny_loadName_cell I.ok.kind hk hc hcell go
    · rcases hx with k | k
      · have : X.env.scope.names.lookup x = some .free := hk
        rw [k] at this; cases this
      · have : X.env.scope.names.lookup x = some .free := hk
        rw [k] at this; cases this

def ipI (f : Int → Int → Int) : TIp := fun x y H Q => ∃ i j, x = .int i ∧ y = .int j ∧ Q (.int (f i j)) H
theorem ip_add : PIp X .Add (ipI fun i j => i + j) := by
  intro pins s σ H x y v u Q I r1 r2 h
  obtain ⟨i, j, e1, e2, q⟩ := h
  subst e1; subst e2
  obtain ⟨t, rfl⟩ := r1
  obtain ⟨t', rfl⟩ := r2
  exact iadd_int ⟨.int _, H, I.tok _, ⟨_, rfl⟩, q⟩
end


section
variable {X : Cx} {pos : Pos}

def tWhile (c : TT) (tb : TS) : TS := fun D σ H => ∃ W : Nat → St → Hp → Prop, (∃ m, W m σ H) ∧ ∀ m σ H, W m σ H →
  c σ H fun b H1 => if b = true then ∃ N : St → Hp → Prop, (∀ σ' H', N σ' H' → ∃ m', m' < m ∧ W m' σ' H') ∧ tb { D with nx := N, ct := N, bk := D.nx } σ H1 else D.nx σ H1
theorem ps_while {c : Expr} {body : List Stmt} {tc : TT} {tb : TS} (hp : PassesOwn (model X.prog X.w) X.A X.env X.xe) (hc : PT X c tc) (hb : PSs X body tb) : PS X (.While c body [] pos) (tWhile tc tb) := by
  intro pins s σ H D I h
  obtain ⟨W, ⟨m0, w0⟩, turn⟩ := h
  refine wpAny_While (codeAny_whileLoop (fun n s' => ∃ σ' H', Inv X pins σ' H' s' ∧ W n σ' H') ?_ m0 ⟨σ, H, I, w0⟩)
  rintro n s1 ⟨σ1, H1, I1, w1⟩
  refine wpAny_passesOwn hp (thn (hc pins s1 σ1 H1 _ I1 (turn n σ1 H1 w1)) fun b s2 ⟨H2, I2, q2⟩ => ?_)
  cases b with
  | true =>
    obtain ⟨N, hN, q2⟩ := q2
    rw [if_pos rfl]
    refine wpAny_passesOwn hp (thn (hb pins s2 σ1 H2 _ I2 q2) fun f s3 q3 => ?_)
    cases f with
    | next =>
      obtain ⟨σ3, H3, I3, n3⟩ := q3
      obtain ⟨m', hm, w3⟩ := hN σ3 H3 n3
      exact ⟨m', hm, σ3, H3, I3, w3⟩
    | cont =>
      obtain ⟨σ3, H3, I3, n3⟩ := q3
      obtain ⟨m', hm, w3⟩ := hN σ3 H3 n3
      exact ⟨m', hm, σ3, H3, I3, w3⟩
    | brk => exact q3
    | ret v => exact q3
  | false =>
    rw [if_neg Bool.false_ne_true]
    exact wpAny_execs_nil ⟨σ1, H2, I2, q2⟩
end



structure It where
  go : Nat → Hp → Prop
  yld : Nat → Hp → V → Hp → Prop
  stop : Nat → Hp → Prop

def FpOk (X : Cx) (pins : List (Addr × Obj)) (H : Hp) (b : Addr) : Prop :=
  H b = none ∧ b ≠ X.env.locals ∧ b ∉ X.fs ∧ (b ∈ X.ex ∨ X.s₀.heap.objs.size ≤ b) ∧ (∀ x c, X.env.cells.lookup x = some c → c ≠ b) ∧ ∀ p ∈ X.pn ++ pins, p.1 ≠ b
theorem Inv.fpOk {X : Cx} {pins : List (Addr × Obj)} {σ : St} {H H' : Hp} {s : Shared} {b : Addr} (I : Inv X pins σ H s) (hb : s.heap.objs.size ≤ b) (hn : H' b = none) : FpOk X pins H' b := by
  refine ⟨hn, Nat.ne_of_gt (Nat.lt_of_lt_of_le I.lt hb), I.nofs hb, .inr (Nat.le_trans I.sz hb), fun x c e z => ?_, fun p hp z => ?_⟩
  · obtain ⟨v, q⟩ := I.cell x c e
    exact absurd (Nat.lt_of_lt_of_le q.lt (by rw [z]; exact hb)) (Nat.lt_irrefl _)
  · exact absurd (Nat.lt_of_lt_of_le (Heap.lt_size (I.pin p hp).1) (by rw [z]; exact hb)) (Nat.lt_irrefl _)
structure Turn (P : Program) (w : World) (K : PySem.W.Frag) (tg : Expr) (J : It) (fp : List Addr) (it : Addr) (tn : Nat → Heap → Prop) : Prop where
  mem : it ∈ fp
  obj : ∀ i h, tn i h → ∀ b ∈ fp, ∃ o, h.get? b = some o ∧ ∀ v, o.data ≠ .cell v
  keep : ∀ i h h', tn i h → (∀ b ∈ fp, ∀ o, h.get? b = some o → h'.get? b = some o) → tn i h'
  item : ∀ (X : Cx), X.prog = P → X.w = w → X.K = K → X.calm = true → ∀ (i : Nat) (pins : List (Addr × Obj)) (s : Shared) (σ : St) (H : Hp) (E : Value → Shared → Prop), Inv X pins σ H s → (∀ b ∈ fp, FpOk X pins H b) → tn i s.heap → J.go i H →
    wpAny (model P w) X.A (pyNext (.ref it)) (fun r s1 => ∃ u, r = some u ∧
      wpAny (model P w) X.A (letOwnedTupleGo tg (.ref it) u) (fun _ s2 => ∃ x H', Inv X pins σ H' s2 ∧ RelV x u ∧ J.yld i H x H' ∧ tn (i + 1) s2.heap ∧ ∀ b ∈ fp, H' b = none) E s1) E s
  done : ∀ (X : Cx), X.prog = P → X.w = w → X.K = K → X.calm = true → ∀ (i : Nat) (pins : List (Addr × Obj)) (s : Shared) (σ : St) (H : Hp) (E : Value → Shared → Prop), Inv X pins σ H s → (∀ b ∈ fp, FpOk X pins H b) → tn i s.heap → J.stop i H →
    wpAny (model P w) X.A (pyNext (.ref it)) (fun r s1 => r = none ∧ Inv X pins σ H s1) E s
  self : ∀ (A : Around) (i : Nat) (s : Shared) (Q : Value → Shared → Prop) (E : Value → Shared → Prop), tn i s.heap → Q (.ref it) s → wpAny (model P w) A (pyIter (.ref it)) Q E s
abbrev TI := St → Hp → (It → Hp → Prop) → Prop

def PIE (X : Cx) (pins : List (Addr × Obj)) (σ : St) (tg : Expr) (R : It → Hp → Prop) (itv : Value) (s2 : Shared) : Prop :=
  ∃ (it : Addr) (fp : List Addr) (tn : Nat → Heap → Prop) (J : It) (H' : Hp), itv = .ref it ∧ Inv X pins σ H' s2 ∧ Turn X.prog X.w X.K tg J fp it tn ∧ tn 0 s2.heap ∧ (∀ b ∈ fp, FpOk X pins H' b) ∧ R J H'
def PI (X : Cx) (tg iter : Expr) (wi : TI) : Prop :=
  ∀ (pins : List (Addr × Obj)) (s : Shared) (σ : St) (H : Hp) (R : It → Hp → Prop), Inv X pins σ H s → wi σ H R →
    wpAny (model X.prog X.w) X.A (eval iter X.env) (fun v s1 => wpAny (model X.prog X.w) X.A (pyIter v) (PIE X pins σ tg R) X.xe s1) X.xe s


theorem go_of {M : Model} {A : Around} {E : Value → Shared → Prop} {s : Shared} {tg : Expr} {it : Addr} {u : Value} {o : Obj} {n : String} {vs : Array Value} {Q : Unit → Shared → Prop} (ho : s.heap.get? it = some o) (hc : o.cls = .type n) (hd : o.data = .fields vs)
    (hn : ["enumerate", "zip", "dict_itemiterator", "dict_reverseitemiterator", "odict_iterator", "itertools.zip_longest", "itertools.pairwise"].contains n = false) (hQ : Q () s) : wpAny M A (letOwnedTupleGo tg (.ref it) u) Q E s := by
  unfold letOwnedTupleGo
  cases tg <;> first
    | exact wpAny_pure hQ
    | (cases u <;> first
        | exact wpAny_pure hQ
        | (refine wpAny_bind (wpAny_load ho ?_)
           rw [hc, hd]
           show wpAny M A (if (["enumerate", "zip", "dict_itemiterator", "dict_reverseitemiterator", "odict_iterator", "itertools.zip_longest", "itertools.pairwise"].contains n && vs[0]? == some (rawInt _)) = true then _ else _) Q E s
           rw [if_neg (by intro h; rw [hn, Bool.false_and] at h; cases h)]
           exact wpAny_pure hQ))


def Itl (K : PySem.W.Frag) (a : Addr) : It :=
  ⟨fun i H => ∃ xs x, SqL K H a xs ∧ xs[i]? = some x, fun i H x H' => H' = H ∧ ∀ xs, SqL K H a xs → xs[i]? = some x, fun i H => ∃ xs, SqL K H a xs ∧ xs.length ≤ i⟩
def Itr (lo : Int) (n : Nat) : It := ⟨fun i _ => i < n, fun i H x H' => H' = H ∧ x = .int (lo + i), fun i _ => n ≤ i⟩
theorem turn_list {P : Program} {w : World} {K : PySem.W.Frag} {tg : Expr} (a it : Addr) : Turn P w K tg (Itl K a) [it] it (fun i h => h.IsListIter it a i) where
  mem := by simp
  obj := fun i h st b hb => by
    have e : b = it := by simpa using hb
    subst e
    obtain ⟨o, e, c, d⟩ := st
    exact ⟨o, e, fun v z => by rw [d] at z; cases z⟩
  keep := fun i h h' st k => st.at fun o e => k it (by simp) o e
  item := by
    intro X hP hw hK hc i pins s σ H E I hf st hg
    subst hP hw hK
    obtain ⟨xs, x, hq, hx⟩ := hg
    obtain ⟨its, rv, p, hz⟩ := I.list hq
    obtain ⟨u, hu, ru⟩ := rv.get hx
    obtain ⟨f0, f1, f2, f3, f4, f5⟩ := hf it (by simp)
    refine wpAny_pyNext_list_item st p.isList (x := u) (by simpa using hu) fun h' st' sb => ?_
    have I1 : Inv X pins σ H { s with heap := h' } := I.turned (t' := s.toks) (fun b o hb e => (sb.2 b hb).trans e) f0 f1 f3 f4 f5
    obtain ⟨o, e, c, d⟩ := id st'
    exact ⟨u, rfl, go_of (s := { s with heap := h' }) e c d (by decide) ⟨x, H, I1, ru, ⟨rfl, fun ys hy => by rw [I.list_inj hy hq]; exact hx⟩, st', fun b hb => (hf b hb).1⟩⟩
  done := by
    intro X hP hw hK hc i pins s σ H E I hf st hg
    subst hP hw hK
    obtain ⟨xs, hq, hx⟩ := hg
    obtain ⟨its, rv, p, hz⟩ := I.list hq
    obtain ⟨f0, f1, f2, f3, f4, f5⟩ := hf it (by simp)
    have hl := rv.length
    exact wpAny_pyNext_list_end (I.ok.hd hc) st p.isList (by simp; lia) fun h' eb => ⟨rfl, I.turned (t' := s.toks) (fun b o hb e => eb b o hb e) f0 f1 f3 f4 f5⟩
  self := fun _ _ _ _ _ st h => wpAny_pyIter_listiter st h
theorem turn_range {P : Program} {w : World} {K : PySem.W.Frag} {tg : Expr} (it : Addr) (lo : Int) (n : Nat) : Turn P w K tg (Itr lo n) [it] it (fun i h => IsRangeIter h it (lo + (i : Nat) * 1) ((n : Int) - (i : Nat)) 1) where
  mem := by simp
  obj := fun i h st b hb => by
    have e : b = it := by simpa using hb
    subst e
    exact ⟨_, st, fun v z => by
      have z' : Data.fields _ = Data.cell v := z
      cases z'⟩
  keep := fun i h h' st k => k it (by simp) _ st
  item := by
    intro X hP hw hK hc i pins s σ H E I hf st hg
    subst hP hw hK
    obtain ⟨f0, f1, f2, f3, f4, f5⟩ := hf it (by simp)
    have W := Walks.range (prog := X.prog) (w := X.w) (I.ok.hd hc) it lo 1 n
    refine W.item i s _ _ hg st fun v h' tk hv st' kk => ?_
    obtain ⟨t, rfl⟩ := hv
    have I1 : Inv X pins σ H { s with heap := h', toks := tk } := I.turned (fun b o hb e => kk b o (by simpa using hb) e) f0 f1 f3 f4 f5
    refine ⟨_, rfl, go_of (s := { s with heap := h', toks := tk }) (n := "range_iterator") st' rfl rfl (by decide) ⟨.int (lo + i), H, I1, ⟨t, ?_⟩, ⟨rfl, rfl⟩, st', fun b hb => (hf b hb).1⟩⟩
    rw [Int.mul_one]
  done := by
    intro X hP hw hK hc i pins s σ H E I hf st hg
    subst hP hw hK
    obtain ⟨f0, f1, f2, f3, f4, f5⟩ := hf it (by simp)
    exact wpAny_pyNext_range_end (I.ok.hd hc) st (by have : n ≤ i := hg; lia) fun h' eb => ⟨rfl, I.turned (t' := s.toks) (fun b o hb e => eb b o hb e) f0 f1 f3 f4 f5⟩
  self := fun _ _ _ _ _ st h => wpAny_pyIter_rangeiter st h
end L2

namespace L2
open PySem PySem.Spec PyProof.Rows
section
variable {X : Cx} {tg : Expr}
inductive iList_ (K : PySem.W.Frag) (R : It → Hp → Prop) (x : V) (H1 : Hp) : Prop where
  | mk (a : _) (h0_ : x = .ref a) (h1_ : (∃ xs, SqL K H1 a xs)) (h2_ : R (Itl K a) H1) : iList_ K R x H1
def iList (K : PySem.W.Frag) (tl : TE) : TI := fun σ H R => tl σ H fun x H1 => iList_ K R x H1
theorem pi_list {l : Expr} {tl : TE} (hl : PE X l tl) : PI X tg l (iList X.K tl) := by
  intro pins s σ H R I h
  refine thn (hl pins s σ H _ I h) fun v s1 ⟨x, H1, I1, r1, q1⟩ => ?_
  obtain ⟨a, e, ⟨xs, hq⟩, q⟩ := q1
  subst e
  cases r1
  obtain ⟨its, rv, p, hz⟩ := I1.list hq
  refine wpAny_pyIter_list p.isList ?_
  refine ⟨s1.heap.objs.size, [s1.heap.objs.size], _, _, H1, rfl, I1.kept (t' := s1.toks) fun b o e => Heap.get?_push_of_some _ e, turn_list a _, ⟨_, Heap.get?_push_size _ rfl, rfl, rfl⟩, fun b hb => ?_, q⟩
  have e : b = s1.heap.objs.size := by simpa using hb
  subst e
  exact I1.fpOk (Nat.le_refl _) (I1.hok.fresh (Nat.le_refl _))
theorem range_it {pins : List (Addr × Obj)} {σ : St} {H : Hp} {s : Shared} {R : It → Hp → Prop} {E : Value → Shared → Prop} {lo hi : Int} {t u v : Tok} {tk : Nat} (I : Inv X pins σ H s) (h1 : -(2 ^ 62) ≤ lo) (h2 : lo < 2 ^ 62) (h3 : -(2 ^ 62) ≤ hi) (h4 : hi < 2 ^ 62)
    (q : R (Itr lo (hi - lo).toNat) H) : wpAny (model X.prog X.w) X.A (pyIter (.ref s.heap.objs.size)) (PIE X pins σ tg R) E { s with heap := s.heap.push { cls := .type "range", data := .fields #[.int lo t, .int hi u, .int 1 v] }, toks := tk } := by
  refine wpAny_pyIter_range (IsRange.new ..) (small_one h1 h2 h3 h4) ?_
  have I1 : Inv X pins σ H { s with heap := s.heap.push { cls := .type "range", data := .fields #[.int lo t, .int hi u, .int 1 v] }, toks := tk } := I.kept fun b o e => Heap.get?_push_of_some _ e
  refine ⟨(s.heap.push { cls := .type "range", data := .fields #[.int lo t, .int hi u, .int 1 v] }).objs.size, [(s.heap.push { cls := .type "range", data := .fields #[.int lo t, .int hi u, .int 1 v] }).objs.size], _, _, H, rfl,
    I1.kept (t' := tk) fun b o e => Heap.get?_push_of_some _ e, turn_range _ lo (hi - lo).toNat, ?_, fun b hb => ?_, q⟩
  · have e1 : lo + ((0 : Nat) : Int) * 1 = lo := by simp
    have e2 : (((hi - lo).toNat : Nat) : Int) - ((0 : Nat) : Int) = Builtin.Range.rangeSize lo hi 1 := by rw [rangeSize_one]; split <;> lia
    show IsRangeIter _ _ (lo + ((0 : Nat) : Int) * 1) ((((hi - lo).toNat : Nat) : Int) - ((0 : Nat) : Int)) 1
    rw [e1, e2]
    exact Heap.get?_push_size _ rfl
  · have e : b = (s.heap.push { cls := .type "range", data := .fields #[.int lo t, .int hi u, .int 1 v] }).objs.size := by simpa using hb
    subst e
    exact I1.fpOk (Nat.le_refl _) (I1.hok.fresh (Nat.le_refl _))
inductive iRng1_ (R : It → Hp → Prop) (vs : List V) (H1 : Hp) : Prop where
  | mk (j : Int) (h0_ : vs = [.int j]) (h1_ : -(2 ^ 62) ≤ j) (h2_ : j < 2 ^ 62) (h3_ : R (Itr 0 j.toNat) H1) : iRng1_ R vs H1
def iRng1 (ta : TA) : TI := fun σ H R => ta σ H fun vs H1 => iRng1_ R vs H1
theorem pi_range1 {a : Expr} {ta : TA} {p pos : Pos} (hg : Gl X "range") (hm : X.mg "range" = none) (ha : PA X [a] ta) (hs : starEach [a] X.env = [(false, eval a X.env)] := by rfl) : PI X tg (.Call (.Name "range" p) [a] [] pos) (iRng1 ta) := by
  intro pins s σ H R I h
  refine Call_ (ld_blt I hg hm boot_range (PyProof.Rows.callWith_type1 (thn (ha pos pins s σ H _ I h) fun us s1 ⟨vs, H1, I1, r1, q1⟩ => ?_) hs rfl))
  obtain ⟨j, e, q1, q2, q⟩ := q1
  subst e
  cases r1 with
  | cons r rr =>
    cases rr
    obtain ⟨t, rfl⟩ := r
    exact call_range_1 (range_it I1 (by lia) (by lia) q1 q2 (by simpa using q))
def tFor (wi : TI) (g : TG) (tb : TS) : TS := fun D σ H => wi σ H fun J H1 => ∃ W : Nat → Nat → St → Hp → Prop, (∃ m, W 0 m σ H1) ∧ ∀ i m σ H, W i m σ H →
  (J.stop i H ∧ D.nx σ H) ∨ (J.go i H ∧ ∃ N : St → Hp → Prop, (∀ σ' H', N σ' H' → ∃ m', m' < m ∧ W (i + 1) m' σ' H') ∧ ∀ x H', J.yld i H x H' → g x σ H' fun σ2 H2 => tb { D with nx := N, ct := N, bk := D.nx } σ2 H2)

def pinsAt (fp : List Addr) (h : Heap) : List (Addr × Obj) := fp.filterMap fun b => (h.get? b).map fun o => (b, o)
theorem mem_pinsAt {fp : List Addr} {h : Heap} {b : Addr} {o : Obj} (hb : b ∈ fp) (e : h.get? b = some o) : (b, o) ∈ pinsAt fp h := List.mem_filterMap.mpr ⟨b, hb, by rw [e]; rfl⟩
theorem of_pinsAt {fp : List Addr} {h : Heap} {p : Addr × Obj} (hp : p ∈ pinsAt fp h) : p.1 ∈ fp ∧ h.get? p.1 = some p.2 := by
  obtain ⟨b, hb, e⟩ := List.mem_filterMap.mp hp
  cases q : h.get? b with
  | none => rw [q] at e; cases e
  | some o =>
    rw [q] at e
    have e' : (b, o) = p := Option.some.inj e
    subst e'
    exact ⟨hb, q⟩
theorem Inv.pinned {pins : List (Addr × Obj)} {σ : St} {H : Hp} {s : Shared} {fp : List Addr} (I : Inv X pins σ H s) (hf : ∀ b ∈ fp, FpOk X pins H b) (ho : ∀ b ∈ fp, ∃ o, s.heap.get? b = some o ∧ ∀ v, o.data ≠ .cell v) : Inv X (pins ++ pinsAt fp s.heap) σ H s :=
  I.pins_of fun p hp => (List.mem_append.mp hp).elim (fun z => I.pin p (List.mem_append_right _ z)) fun z => by
    obtain ⟨hb, e⟩ := of_pinsAt z
    obtain ⟨f0, f1, f2, _⟩ := hf p.1 hb
    obtain ⟨o, e', d⟩ := ho p.1 hb
    rw [e] at e'; cases e'
    exact ⟨e, f0, f1, f2, d⟩
theorem Inv.unpinned {pins pl : List (Addr × Obj)} {σ : St} {H : Hp} {s : Shared} (I : Inv X (pins ++ pl) σ H s) : Inv X pins σ H s := I.pins_of fun p hp => I.pin p (List.mem_append_right _ (List.mem_append_left _ hp))
theorem ps_for {iter : Expr} {body : List Stmt} {wi : TI} {g : TG} {tb : TS} {pos : Pos} (hp : PassesOwn (model X.prog X.w) X.A X.env X.xe) (hc : X.calm = true) (hi : PI X tg iter wi) (hg : PG X tg g) (hb : PSs X body tb)
    (hs : ∀ x, foldedSetIterable iter X.env x = pure x := by intro _; rfl) : PS X (.For tg iter body [] pos) (tFor wi g tb) := by
  intro pins s σ H D I h
  refine wpAny_For (thn (hi pins s σ H _ I h) fun v s1 h1 => thn h1 fun itv s2 h2 => ?_) hs
  obtain ⟨it, fp, tn, J, H2, e, I2, T, st2, f2, W, ⟨m0, w0⟩, turn⟩ := h2
  subst e
  -- what stays true of the iterator's objects through the loop
  have stat : ∀ {H' : Hp}, (∀ b ∈ fp, H' b = none) → ∀ b ∈ fp, FpOk X pins H' b := fun hn b hb => ⟨hn b hb, (f2 b hb).2⟩
  refine codeAny_forLoop_any (fun n s' => ∃ i σ' H', Inv X pins σ' H' s' ∧ tn i s'.heap ∧ (∀ b ∈ fp, H' b = none) ∧ W i n σ' H') ?_ m0 ⟨0, σ, H2, I2, st2, fun b hb => (f2 b hb).1, w0⟩
  rintro n s3 ⟨i, σ3, H3, I3, st3, fr3, w3⟩
  rcases turn i n σ3 H3 w3 with ⟨stop, qn⟩ | ⟨go, N, hN, step⟩
  · refine wpAny_passesOwn hp (thn (T.done X rfl rfl rfl hc i pins s3 σ3 H3 X.xe I3 (stat fr3) st3 stop) fun r s4 ⟨hr, I4⟩ => ?_)
    subst hr
    exact wpAny_execs_nil ⟨σ3, H3, I4, qn⟩
  · refine wpAny_passesOwn hp (thn (T.item X rfl rfl rfl hc i pins s3 σ3 H3 X.xe I3 (stat fr3) st3 go) fun r s4 ⟨u, hr, h4⟩ => ?_)
    subst hr
    refine wpAny_passesOwn hp (thn h4 fun _ s5 ⟨x, H5, I5, r5, y5, st5, fr5⟩ => ?_)
    have I5' := I5.pinned (stat fr5) (T.obj _ _ st5)
    refine wpAny_passesOwn hp (thn (hg _ s5 σ3 H5 x u _ I5' r5 (step x H5 y5)) fun _ s6 ⟨σ6, H6, I6, q6⟩ => ?_)
    refine wpAny_passesOwn hp (thn (hb _ s6 σ6 H6 _ I6 q6) fun f s7 q7 => ?_)
    have again : ∀ {σ7 : St} {H7 : Hp}, Inv X (pins ++ pinsAt fp s5.heap) σ7 H7 s7 → N σ7 H7 → ∃ m, m < n ∧ ∃ i σ' H', Inv X pins σ' H' s7 ∧ tn i s7.heap ∧ (∀ b ∈ fp, H' b = none) ∧ W i m σ' H' := fun {σ7 H7} I7 n7 => by
      obtain ⟨m', hm, w7⟩ := hN σ7 H7 n7
      refine ⟨m', hm, i + 1, σ7, H7, I7.unpinned, T.keep _ _ _ st5 fun b hb o e => (I7.pin (b, o) (List.mem_append_right _ (List.mem_append_right _ (mem_pinsAt hb e)))).1, fun b hb => ?_, w7⟩
      obtain ⟨o, e, d⟩ := T.obj _ _ st5 b hb
      exact (I7.pin (b, o) (List.mem_append_right _ (List.mem_append_right _ (mem_pinsAt hb e)))).2.1
    cases f with
    | next => obtain ⟨σ7, H7, I7, n7⟩ := q7; exact again I7 n7
    | cont => obtain ⟨σ7, H7, I7, n7⟩ := q7; exact again I7 n7
    | brk => obtain ⟨σ7, H7, I7, q7⟩ := q7; exact ⟨σ7, H7, I7.unpinned, q7⟩
    | ret v => obtain ⟨x7, σ7, H7, I7, r7, q7⟩ := q7; exact ⟨x7, σ7, H7, I7.unpinned, r7, q7⟩
end



theorem for_list {K : PySem.W.Frag} {a : Addr} {xs : List V} {g : TG} {tb : TS} {D : Ends} {σ : St} {H : Hp} (Pv : Nat → St → Hp → Prop) (h0 : Pv 0 σ H) (hl : ∀ i σ H, i ≤ xs.length → Pv i σ H → SqL K H a xs)
    (hs : ∀ i x σ H, xs[i]? = some x → Pv i σ H → g x σ H fun σ2 H2 => tb { D with nx := Pv (i + 1), ct := Pv (i + 1), bk := D.nx } σ2 H2) (hd : ∀ σ H, Pv xs.length σ H → D.nx σ H) :
    ∃ W : Nat → Nat → St → Hp → Prop, (∃ m, W 0 m σ H) ∧ ∀ i m σ H, W i m σ H →
      ((Itl K a).stop i H ∧ D.nx σ H) ∨ ((Itl K a).go i H ∧ ∃ N : St → Hp → Prop, (∀ σ' H', N σ' H' → ∃ m', m' < m ∧ W (i + 1) m' σ' H') ∧ ∀ x H', (Itl K a).yld i H x H' → g x σ H' fun σ2 H2 => tb { D with nx := N, ct := N, bk := D.nx } σ2 H2) := by
  refine ⟨fun i m σ H => m = xs.length - i ∧ i ≤ xs.length ∧ Pv i σ H, ⟨xs.length, by simp, Nat.zero_le _, h0⟩, ?_⟩
  rintro i m σ H ⟨rfl, hi, p⟩
  have q := hl i σ H hi p
  by_cases hlt : i < xs.length
  · refine .inr ⟨⟨xs, xs[i], q, by simp [hlt]⟩, Pv (i + 1), fun σ' H' p' => ⟨xs.length - (i + 1), by omega, rfl, hlt, p'⟩, fun x H' y => ?_⟩
    obtain ⟨e, y⟩ := y
    subst e
    exact hs i x σ _ (y xs q) p
  · have e : i = xs.length := by omega
    subst e
    exact .inl ⟨⟨xs, q, Nat.le_refl _⟩, hd σ H p⟩
theorem for_range {lo : Int} {n : Nat} {g : TG} {tb : TS} {D : Ends} {σ : St} {H : Hp} (Pv : Nat → St → Hp → Prop) (h0 : Pv 0 σ H)
    (hs : ∀ i σ H, i < n → Pv i σ H → g (.int (lo + i)) σ H fun σ2 H2 => tb { D with nx := Pv (i + 1), ct := Pv (i + 1), bk := D.nx } σ2 H2) (hd : ∀ σ H, Pv n σ H → D.nx σ H) :
    ∃ W : Nat → Nat → St → Hp → Prop, (∃ m, W 0 m σ H) ∧ ∀ i m σ H, W i m σ H →
      ((Itr lo n).stop i H ∧ D.nx σ H) ∨ ((Itr lo n).go i H ∧ ∃ N : St → Hp → Prop, (∀ σ' H', N σ' H' → ∃ m', m' < m ∧ W (i + 1) m' σ' H') ∧ ∀ x H', (Itr lo n).yld i H x H' → g x σ H' fun σ2 H2 => tb { D with nx := N, ct := N, bk := D.nx } σ2 H2) := by
  refine ⟨fun i m σ H => m = n - i ∧ i ≤ n ∧ Pv i σ H, ⟨n, by simp, Nat.zero_le _, h0⟩, ?_⟩
  rintro i m σ H ⟨rfl, hi, p⟩
  by_cases hlt : i < n
  · refine .inr ⟨hlt, Pv (i + 1), fun σ' H' p' => ⟨n - (i + 1), by omega, rfl, hlt, p'⟩, fun x H' y => ?_⟩
    obtain ⟨e, y⟩ := y
    subst e y
    exact hs i σ _ hlt p
  · have e : i = n := by omega
    subst e
    exact .inl ⟨Nat.le_refl _, hd σ H p⟩

end L2

namespace L2
open PySem PySem.Spec PyProof.Rows

abbrev R2 := V → V → Hp → VK → Prop

def OpR (X : Cx) (f : Value → Value → Sem Value) (r : R2) : Prop :=
  ∀ (pins : List (Addr × Obj)) (s : Shared) (σ : St) (H : Hp) (x y : V) (v u : Value) (Q : VK), Inv X pins σ H s → RelV x v → RelV y u → r x y H Q →
    wpAny (model X.prog X.w) X.A (f v u) (EP X pins σ Q) X.xe s

def CallR (X : Cx) (f : Value) (r : List V → Hp → VK → Prop) : Prop :=
  ∀ (pins : List (Addr × Obj)) (s : Shared) (σ : St) (H : Hp) (xs : List V) (us : List Value) (Q : VK), Inv X pins σ H s → Vals xs us → r xs H Q →
    wpAny (model X.prog X.w) X.A (call f us) (EP X pins σ Q) X.xe s

def tOp (r : R2) (ta tb : TE) : TE := fun σ H Q => ta σ H fun x H1 => tb σ H1 fun y H2 => r x y H2 Q
inductive rI_ (C : Int → Int → Prop) (g : Int → Int → V) (x : V) (y : V) (H : Hp) (Q : VK) : Prop where
  | mk (i : _) (j : _) (h0_ : x = .int i) (h1_ : y = .int j) (h2_ : C i j) (h3_ : Q (g i j) H) : rI_ C g x y H Q
def rI (C : Int → Int → Prop) (g : Int → Int → V) : R2 := fun x y H Q => rI_ C g x y H Q
inductive rI0_ (g : Int → Int → V) (x : V) (y : V) (H : Hp) (Q : VK) : Prop where
  | mk (i : _) (j : _) (h0_ : x = .int i) (h1_ : y = .int j) (h2_ : Q (g i j) H) : rI0_ g x y H Q
def rI0 (g : Int → Int → V) : R2 := fun x y H Q => rI0_ g x y H Q
section
variable {X : Cx} {a b c : Expr} {ta tb tc : TE} {pos : Pos}

theorem binT (ha : PE X a ta) (hb : PE X b tb) {pins : List (Addr × Obj)} {s : Shared} {σ : St} {H : Hp} {R : V → V → Hp → Prop} (I : Inv X pins σ H s)
    (h : ta σ H fun x H1 => tb σ H1 fun y H2 => R x y H2) {Q : Value → Shared → Prop} {f : Value → Value → Sem Value}
    (hf : ∀ v u s2 x y H2, Inv X pins σ H2 s2 → RelV x v → RelV y u → R x y H2 → wpAny (model X.prog X.w) X.A (f v u) Q X.xe s2) :
    wpAny (model X.prog X.w) X.A (eval a X.env) (fun v s₁ => wpAny (model X.prog X.w) X.A (eval b X.env) (fun u s₂ => wpAny (model X.prog X.w) X.A (f v u) Q X.xe s₂) X.xe s₁) X.xe s := by
  refine thn (ha pins s σ H _ I h) fun v s1 ⟨x, H1, I1, r1, q1⟩ => ?_
  refine thn (hb pins s1 σ H1 _ I1 q1) fun u s2 ⟨y, H2, I2, r2, q2⟩ => ?_
  exact hf v u s2 x y H2 I2 r1 r2 q2

theorem pe_op {op : Operator} {r : R2} (ho : OpR X (binaryOp op) r) (ha : PE X a ta) (hb : PE X b tb) : PE X (.BinOp a op b pos) (tOp r ta tb) := by
  intro pins s σ H Q I h
  exact wpAny_BinOp (binT ha hb I h fun v u s2 x y H2 I2 rx ry q => ho pins s2 σ H2 x y v u Q I2 rx ry q)
theorem opI {f : Value → Value → Sem Value} {C : Int → Int → Prop} {g : Int → Int → Int}
    (rule : ∀ (i j : Int) (t u : Tok) (s : Shared) (Q : Value → Shared → Prop) (E : Value → Shared → Prop), C i j → Q (.int (g i j) s.toks) { s with toks := s.toks + 1 } → wpAny (model X.prog X.w) X.A (f (.int i t) (.int j u)) Q E s) :
    OpR X f (rI C fun i j => .int (g i j)) := by
  intro pins s σ H x y v u Q I rx ry h
  obtain ⟨i, j, rfl, rfl, hc, q⟩ := h
  obtain ⟨t, rfl⟩ := rx
  obtain ⟨t', rfl⟩ := ry
  exact rule i j t t' s _ _ hc ⟨.int (g i j), H, I.tok _, ⟨_, rfl⟩, q⟩
theorem opI0 {f : Value → Value → Sem Value} {g : Int → Int → Int}
    (rule : ∀ (i j : Int) (t u : Tok) (s : Shared) (Q : Value → Shared → Prop) (E : Value → Shared → Prop), Q (.int (g i j) s.toks) { s with toks := s.toks + 1 } → wpAny (model X.prog X.w) X.A (f (.int i t) (.int j u)) Q E s) :
    OpR X f (rI0 fun i j => .int (g i j)) := by
  intro pins s σ H x y v u Q I rx ry h
  obtain ⟨i, j, rfl, rfl, q⟩ := h
  obtain ⟨t, rfl⟩ := rx
  obtain ⟨t', rfl⟩ := ry
  exact rule i j t t' s _ _ ⟨.int (g i j), H, I.tok _, ⟨_, rfl⟩, q⟩
theorem opB0 {f : Value → Value → Sem Value} {g : Int → Int → Bool}
    (rule : ∀ (i j : Int) (t u : Tok) (s : Shared) (Q : Value → Shared → Prop) (E : Value → Shared → Prop), Q (.bool (g i j)) s → wpAny (model X.prog X.w) X.A (f (.int i t) (.int j u)) Q E s) :
    OpR X f (rI0 fun i j => .bl (g i j)) := by
  intro pins s σ H x y v u Q I rx ry h
  obtain ⟨i, j, rfl, rfl, q⟩ := h
  obtain ⟨t, rfl⟩ := rx
  obtain ⟨t', rfl⟩ := ry
  exact rule i j t t' s _ _ ⟨.bl (g i j), H, I, rfl, q⟩

def CDiv (i j : Int) : Prop := 0 < j ∧ j < 1073741824
def CPow (i j : Int) : Prop := 0 ≤ j ∧ j ≤ 1000000 ∧ i.natAbs < 2 ^ 64
def CMul (i j : Int) : Prop := (-(2 ^ 64) < i ∧ i < 2 ^ 64) ∨ (-(2 ^ 64) < j ∧ j < 2 ^ 64)
theorem CMul.ok {i j : Int} (h : CMul i j) : IntMulOk i j := by
  rcases h with ⟨h1, h2⟩ | ⟨h1, h2⟩
  · exact .of_left (intBits_le_64 h1 h2)
  · exact .of_right (intBits_le_64 h1 h2)
theorem op_add : OpR X (binaryOp .Add) (rI0 fun i j => .int (i + j)) := opI0 fun _ _ _ _ _ _ _ q => add_int q
theorem op_mul : OpR X (binaryOp .Mult) (rI CMul fun i j => .int (i * j)) := opI fun _ _ _ _ _ _ _ hc q => mul_int q hc.ok

theorem op_fdiv : OpR X (binaryOp .FloorDiv) (rI CDiv fun i j => .int (i / j)) := opI fun i j _ _ _ _ _ hc q => by
  have h1 : (0 : Int) < j := hc.1
  have h2 : j < 1073741824 := hc.2
  exact floordiv_int (by omega) (by rw [Int.fdiv_eq_ediv_of_nonneg i (by omega)]; exact q) (.inl (PyProof.noPylong_small (by omega)))
theorem op_mod : OpR X (binaryOp .Mod) (rI (fun _ j => 0 < j) fun i j => .int (i % j)) := opI fun i j _ _ _ _ _ hc q => by
  have h1 : (0 : Int) < j := hc
  exact mod_int' (by lia) (by rw [Int.fmod_eq_emod_of_nonneg i (by lia)]; exact q)
theorem op_pow : OpR X (binaryOp .Pow) (rI CPow fun i j => .int (i ^ j.toNat)) := opI fun _ _ _ _ _ _ _ hc q => pow_int_small hc.1 hc.2.1 hc.2.2 q
end



def scal : V → V → Bool
  | .non, .non => true | .non, .int _ => true | .int _, .non => true | .non, .bl _ => true | .bl _, .non => true | .non, .str _ => true | .str _, .non => true
  | .int _, .int _ => true | .bl _, .bl _ => true | .str _, .str _ => true | .byt _, .byt _ => true
  | .int _, .str _ => true | .str _, .int _ => true | .bl _, .str _ => true | .str _, .bl _ => true
  | _, _ => false
inductive rEq_ (x : V) (y : V) (H : Hp) (Q : VK) : Prop where
  | mk  (h0_ : scal x y = true) (h1_ : Q (.bl (decide (x = y))) H) : rEq_ x y H Q
def rEq : R2 := fun x y H Q => rEq_ x y H Q
inductive rNe_ (x : V) (y : V) (H : Hp) (Q : VK) : Prop where
  | mk  (h0_ : scal x y = true) (h1_ : Q (.bl (!decide (x = y))) H) : rNe_ x y H Q
def rNe : R2 := fun x y H Q => rNe_ x y H Q

theorem dec_int {i j : Int} : decide (V.int i = V.int j) = (i == j) := by
  rw [Bool.eq_iff_iff]
  simp
theorem dec_bl {i j : Bool} : decide (V.bl i = V.bl j) = (i == j) := by
  rw [Bool.eq_iff_iff]
  simp
theorem dec_str {i j : Str} : decide (V.str i = V.str j) = (i == j) := by
  rw [Bool.eq_iff_iff]
  simp
theorem dec_byt {i j : Array UInt8} : decide (V.byt i = V.byt j) = (i.toList == j.toList) := by
  rw [Bool.eq_iff_iff]
  cases i
  cases j
  simp

section
variable {X : Cx} {a b c : Expr} {ta tb tc : TE} {pos : Pos}
theorem fin_bl {pins : List (Addr × Obj)} {σ : St} {H : Hp} {s : Shared} {Q : VK} {k k' : Bool} (I : Inv X pins σ H s) (q : Q (.bl k) H) (e : k = k') : EP X pins σ Q (.bool k') s := by
  subst e
  exact ⟨.bl k, H, I, rfl, q⟩
theorem op_eq : OpR X (compareOp .Eq) rEq := by
  intro pins s σ H x y v u Q I rx ry h
  obtain ⟨hs, q⟩ := h
  cases x with
  | non =>
    cases rx
    cases y with
    | non => cases ry; exact PySem.EqNone.eq_none_none (fin_bl I q (by simp))
    | bl j => cases ry; exact PySem.EqNone.eq_none_bool (fin_bl I q (by simp))
    | int j => obtain ⟨t', rfl⟩ := ry; exact PySem.EqNone.eq_none_int (fin_bl I q (by simp))
    | str j => obtain ⟨t', rfl⟩ := ry; exact PySem.EqNone.eq_none_str (fin_bl I q (by simp))
    | _ => exact absurd (show false = true from hs) Bool.false_ne_true
  | bl i =>
    cases rx
    cases y with
    | non => cases ry; exact PySem.EqNone.eq_bool_none (fin_bl I q (by simp))
    | bl j => cases ry; exact eq_bool (fin_bl I q dec_bl)
    | str j => obtain ⟨t', rfl⟩ := ry; exact PySem.EqMixed.eq_bool_str (fin_bl I q (by simp))
    | _ => exact absurd (show false = true from hs) Bool.false_ne_true
  | int i =>
    obtain ⟨t, rfl⟩ := rx
    cases y with
    | non => cases ry; exact PySem.EqNone.eq_int_none (fin_bl I q (by simp))
    | int j => obtain ⟨t', rfl⟩ := ry; exact eq_int (fin_bl I q dec_int)
    | str j => obtain ⟨t', rfl⟩ := ry; exact PySem.EqMixed.eq_int_str (fin_bl I q (by simp))
    | _ => exact absurd (show false = true from hs) Bool.false_ne_true
  | str i =>
    obtain ⟨t, rfl⟩ := rx
    cases y with
    | non => cases ry; exact PySem.EqNone.eq_str_none (fin_bl I q (by simp))
    | bl j => cases ry; exact PySem.EqMixed.eq_str_bool (fin_bl I q (by simp))
    | int j => obtain ⟨t', rfl⟩ := ry; exact PySem.EqMixed.eq_str_int (fin_bl I q (by simp))
    | str j => obtain ⟨t', rfl⟩ := ry; exact eq_str (fin_bl I q dec_str)
    | _ => exact absurd (show false = true from hs) Bool.false_ne_true
  | byt i =>
    obtain ⟨t, rfl⟩ := rx
    cases y with
    | byt j => obtain ⟨t', rfl⟩ := ry; exact PySem.W.eq_bytes (fin_bl I q dec_byt)
    | _ => exact absurd (show false = true from hs) Bool.false_ne_true
  | _ => cases y <;> exact absurd (show false = true from hs) Bool.false_ne_true
theorem op_ne : OpR X (compareOp .NotEq) rNe := by
  intro pins s σ H x y v u Q I rx ry h
  obtain ⟨hs, q⟩ := h
  cases x with
  | non =>
    cases rx
    cases y with
    | non => cases ry; exact PySem.EqNone.ne_none_none (fin_bl I q (by simp))
    | bl j => cases ry; exact PySem.EqNone.ne_none_bool (fin_bl I q (by simp))
    | int j => obtain ⟨t', rfl⟩ := ry; exact PySem.EqNone.ne_none_int (fin_bl I q (by simp))
    | str j => obtain ⟨t', rfl⟩ := ry; exact PySem.EqNone.ne_none_str (fin_bl I q (by simp))
    | _ => exact absurd (show false = true from hs) Bool.false_ne_true
  | bl i =>
    cases rx
    cases y with
    | non => cases ry; exact PySem.EqNone.ne_bool_none (fin_bl I q (by simp))
    | bl j => cases ry; exact ne_bool (fin_bl I q (congrArg not dec_bl))
    | str j => obtain ⟨t', rfl⟩ := ry; exact PySem.EqMixed.ne_bool_str (fin_bl I q (by simp))
    | _ => exact absurd (show false = true from hs) Bool.false_ne_true
  | int i =>
    obtain ⟨t, rfl⟩ := rx
    cases y with
    | non => cases ry; exact PySem.EqNone.ne_int_none (fin_bl I q (by simp))
    | int j => obtain ⟨t', rfl⟩ := ry; exact ne_int (fin_bl I q (congrArg not dec_int))
    | str j => obtain ⟨t', rfl⟩ := ry; exact PySem.EqMixed.ne_int_str (fin_bl I q (by simp))
    | _ => exact absurd (show false = true from hs) Bool.false_ne_true
  | str i =>
    obtain ⟨t, rfl⟩ := rx
    cases y with
    | non => cases ry; exact PySem.EqNone.ne_str_none (fin_bl I q (by simp))
    | bl j => cases ry; exact PySem.EqMixed.ne_str_bool (fin_bl I q (by simp))
    | int j => obtain ⟨t', rfl⟩ := ry; exact PySem.EqMixed.ne_str_int (fin_bl I q (by simp))
    | str j => obtain ⟨t', rfl⟩ := ry; exact ne_str (fin_bl I q (congrArg not dec_str))
    | _ => exact absurd (show false = true from hs) Bool.false_ne_true
  | byt i =>
    obtain ⟨t, rfl⟩ := rx
    cases y with
    | byt j => obtain ⟨t', rfl⟩ := ry; exact PySem.W.ne_bytes (fin_bl I q (congrArg not dec_byt))
    | _ => exact absurd (show false = true from hs) Bool.false_ne_true
  | _ => cases y <;> exact absurd (show false = true from hs) Bool.false_ne_true

theorem op_lt : OpR X (compareOp .Lt) (rI0 fun i j => .bl (decide (i < j))) := opB0 fun _ _ _ _ _ _ _ q => lt_int q
theorem op_gt : OpR X (compareOp .Gt) (rI0 fun i j => .bl (decide (j < i))) := opB0 fun _ _ _ _ _ _ _ q => gt_int q
theorem op_isN : OpR X (compareOp .Is) (fun x y H Q => y = .non ∧ Q (.bl (decide (x = .non))) H) := by
  intro pins s σ H x y v u Q I rx ry h
  obtain ⟨rfl, q⟩ := h
  cases ry
  refine is_none_gen (fin_bl I q ?_)
  cases x <;> first
    | (cases rx; rfl)
    | (obtain ⟨t, rfl⟩ := rx; rfl)
theorem op_notN : OpR X (compareOp .IsNot) (fun x y H Q => y = .non ∧ Q (.bl (!decide (x = .non))) H) := by
  intro pins s σ H x y v u Q I rx ry h
  obtain ⟨rfl, q⟩ := h
  cases ry
  refine isnot_none_gen (fin_bl I q ?_)
  cases x <;> first
    | (cases rx; rfl)
    | (obtain ⟨t, rfl⟩ := rx; rfl)

theorem nomark (b : Expr) {op : CmpOp} (h : op ≠ .In := by decide) (h2 : op ≠ .NotIn := by decide) : behindInMarks op b = false := by
  have e1 : (op == CmpOp.In) = false := by cases op <;> first | rfl | exact absurd rfl h
  have e2 : (op == CmpOp.NotIn) = false := by cases op <;> first | rfl | exact absurd rfl h2
  cases b <;> simp [behindInMarks, e1, e2]

theorem pe_cmpR {op : CmpOp} {r : R2} (ho : OpR X (compareOp op) r) (ha : PE X a ta) (hb : PE X b tb) (hm : behindInMarks op b = false) : PE X (.Compare a [op] [b] pos) (tOp r ta tb) := by
  intro pins s σ H Q I h
  exact wpAny_Compare1 (binT ha hb I h fun v u s2 x y H2 I2 rx ry q => ho pins s2 σ H2 x y v u Q I2 rx ry q) hm

def tTest (t : TE) : TT := fun σ H Q => t σ H fun x H' => ∃ k, x = .bl k ∧ Q k H'
theorem pt_cmpR {op : CmpOp} {r : R2} (ho : OpR X (compareOp op) r) (ha : PE X a ta) (hb : PE X b tb) (hm : behindInMarks op b = false) : PT X (.Compare a [op] [b] pos) (tTest (tOp r ta tb)) := by
  intro pins s σ H Q I h
  refine wpAny_isTrue_Compare1 (thn (ha pins s σ H _ I h) fun v s1 ⟨x, H1, I1, r1, q1⟩ => thn (hb pins s1 σ H1 _ I1 q1) fun u s2 ⟨y, H2, I2, r2, q2⟩ =>
    thn (ho pins s2 σ H2 x y v u _ I2 r1 r2 q2) fun c s3 ⟨z, H3, I3, r3, k, e, q3⟩ => ?_) hm
  subst e
  cases r3
  exact wpAny_truthy_bool ⟨H3, I3, q3⟩

theorem line63 : (sizeLine : Nat) < 2 ^ 63 := by rw [sizeLine_eq]; decide
theorem vals1 {x : V} {us : List Value} (r : Vals [x] us) : ∃ u, us = [u] ∧ RelV x u := by
  cases r with
  | cons r1 r2 => cases r2; exact ⟨_, rfl, r1⟩
theorem vals2 {x y : V} {us : List Value} (r : Vals [x, y] us) : ∃ u w', us = [u, w'] ∧ RelV x u ∧ RelV y w' := by
  cases r with
  | cons r1 r2 =>
    cases r2 with
    | cons r3 r4 => cases r4; exact ⟨_, _, rfl, r1, r3⟩
end
end L2

namespace L2
open PySem PySem.Spec PyProof.Rows


structure ObjM (h : Heap) (x dx C : Addr) (mA : Str → Option Value) : Prop where
  obj : h.get? x = some (PySem.W.instObj C dx)
  ns : h.Ns1 dx mA
  ne : dx ≠ x

theorem lookIn_ns {h : Heap} {dx : Addr} {mA : Str → Option Value} (n : h.Ns1 dx mA) : ∃ od, h.get? dx = some od ∧ ∀ name, PySem.W.lookIn name od = some (mA name) := by
  obtain ⟨o, es, ep, ho, hd, hk, _, hm⟩ := n
  refine ⟨o, ho, fun name => ?_⟩
  have e := hm name
  unfold nsFind findBy at e
  rw [← Array.find?_toList] at e
  unfold PySem.W.lookIn
  rw [hd]
  dsimp only
  split
  · rename_i y q
    rw [q] at e
    exact congrArg some e
  · rename_i q
    rw [q] at e
    have a : es.toList.any (·.refKey) = false := by
      rw [List.any_eq_false]
      intro y hy
      obtain ⟨z, t, hkey⟩ := hk y (Array.mem_toList_iff.mp hy)
      simp [DictEntry.refKey, hkey]
    have a' : ¬ es.toList.any (·.refKey) = true := by rw [a]; exact Bool.false_ne_true
    rw [if_neg a']
    exact congrArg some e

theorem ObjM.look {h : Heap} {x dx C : Addr} {mA : Str → Option Value} (I : ObjM h x dx C mA) : ∃ od, PySem.W.InstAt h x (PySem.W.instObj C dx) C (some od) ∧ ∀ name, PySem.W.lookIn name od = some (mA name) :=
  let ⟨od, ho, hl⟩ := lookIn_ns I.ns
  ⟨od, ⟨I.obj, rfl, rfl, ho⟩, hl⟩

section
variable {prog : Program} {w : World} {A : Around} {E : Value → Shared → Prop} {s : Shared} {K : PySem.W.Frag} {x dx C f : Addr} {mA : Str → Option Value} {name : Str} {v : Value}

theorem get_map {expr : Bool} {Q : Value → Shared → Prop} (X : K.In s.heap) (I : ObjM s.heap x dx C mA) (hg : PySem.W.plainGet K C name = true) (hh : PySem.W.hasDictIn K C = true)
    (ha : PySem.W.findIn K (.ref C) name = some none) (hv : mA name = some v) (hv' : PySem.W.handedIn v = true) (h : Q v { s with toks := s.toks + 1 }) :
    wpAny (model prog w) A (getAttr (.ref x) name expr) Q E s := by
  obtain ⟨od, J, hl⟩ := I.look
  exact PySem.W.get_value X J (PySem.W.plainGet_of hg).1 (PySem.W.findObj_own hh ha rfl (by rw [hl, hv])) hv' h

theorem get_meth {pl : Sem Bool} {Q : Value × List Value → Shared → Prop} (X : K.In s.heap) (I : ObjM s.heap x dx C mA) (hg : PySem.W.plainGet K C name = true)
    (hf : PySem.W.findIn K (.ref C) name = some (some (.ref f))) (ht : PySem.W.isFn K (.ref f) = true) (hv : mA name = none) (h : Q (.ref f, [.ref x]) s) :
    wpAny (model prog w) A (getMethod (.ref x) name pl) Q E s := by
  obtain ⟨od, J, hl⟩ := I.look
  exact PySem.W.method_fn X J (PySem.W.plainGet_of hg).1 (PySem.W.plainGet_of hg).2 hf (beq_iff_eq.mp ht) (by show (PySem.W.lookIn name od).map (·.isSome) = some false; rw [hl, hv]; rfl) h

theorem set_map {ns : List Str} {Q : Unit → Shared → Prop} (X : K.In s.heap) (I : ObjM s.heap x dx C mA)
    (hs : PySem.W.findIn K (.ref C) "__setattr__" = some (some (.builtin "object.__setattr__"))) (hp : PySem.W.plainOver K C = true) (ht : PySem.W.takerIn K C name = some none) (hh : PySem.W.hasDictIn K C = true)
    (hw : PySem.Within mA ns) (hsz : ns.length ≤ sizeLine)
    (h : ∀ h', ObjM h' x dx C (fun y => if y = name then some v else mA y) → Heap.SameBut dx s.heap h' → Q () { s with heap := h', toks := s.toks + 2 }) :
    wpAny (model prog w) A (setAttr (.ref x) name v) Q E s := by
  obtain ⟨od, J, hl⟩ := I.look
  refine PySem.W.set_plain X J hs (PySem.W.osa_open (s := { s with toks := s.toks + 1 }) (r := none) X J hp ht fun b => ?_)
  obtain ⟨cd, hc, hd'⟩ := PySem.W.any_some hh
  have hx : s.heap.get? x = some ⟨.ref C, some dx, .plain, #[]⟩ := I.obj
  refine wpAny_bind (wpAny_pure (wpAny_bind (wpAny_bind (wpAny_loadPart hx (wpAny_bind (PySem.W.Looks.here (s := { s with toks := s.toks + 1 }) (PySem.W.looks_clsIn X hc) ?_))))))
  rw [hd']
  refine wpAny_pure (a := some dx) (wpAny_bind (wpAny_pure (wpAny_bind ?_)))
  refine wpAny_nsSet1 (s := { s with toks := s.toks + 1 }) I.ns fun h' hn2 hs2 => ?_
  obtain ⟨oD, esD, epD, hoD, hdD, hcD⟩ := hn2.count (PySem.Within.cons name v hw)
  refine wpAny_bind (wpAny_lookBehind hoD (by rw [hdD]; exact pastItsLine_dict (Nat.le_trans hcD (by rw [List.length_cons]; lia))) ?_)
  exact wpAny_pure (h _ ⟨(hs2.2 _ (Ne.symm I.ne)).trans I.obj, hn2, I.ne⟩ hs2)


theorem make_map {R : Result → Shared → Prop} {vs : List Value} {kw : List (Str × Value)} (X : K.In s.heap) (hm : PySem.W.makesIn K C = true)
    (hi : PySem.W.findIn K (.ref C) "__init__" = some (some (.ref f))) (hf : PySem.W.typeIn K (.ref f) = some (.type "function"))
    (h : codeAny (model prog w) (A.under (.builtin "type.__call__" ⟨.ref C :: vs, kw⟩)) (.call (.ref f) ⟨.ref (s.heap.objs.size + 1) :: vs, kw⟩) (PySem.W.InitBack (s.heap.objs.size + 1) R)
      { s with heap := (s.heap.push PySem.W.emptyDict).push (PySem.W.instObj C s.heap.objs.size) }) :
    codeAny (model prog w) A (.call (.ref C) ⟨vs, kw⟩) R s := by
  obtain ⟨hh, g, d, t, os⟩ := s
  exact PySem.W.make_core (PySem.W.makes_of X hm) (PySem.W.looks_findIn X hi) (fun self => PySem.W.bind_fn X self hf) (.inl rfl) h

end


def putF (f : Str) (v : V) : List (Str × V) → List (Str × V)
  | [] => [(f, v)]
  | (g, x) :: r => if g = f then (g, v) :: r else (g, x) :: putF f v r
theorem lookup_putF (f g : Str) (v : V) : ∀ fs : List (Str × V), (putF f v fs).lookup g = if g = f then some v else fs.lookup g
  | [] => by
    show List.lookup g [(f, v)] = _
    by_cases h : g = f
    · have hb : (g == f) = true := beq_iff_eq.mpr h
      simp only [List.lookup, hb, if_pos h]
    · have hb : (g == f) = false := beq_eq_false_iff_ne.mpr h
      simp only [List.lookup, hb, if_neg h]
  | (k, x) :: r => by
    have ih := lookup_putF f g v r
    rw [show putF f v ((k, x) :: r) = (if k = f then (k, v) :: r else (k, x) :: putF f v r) from rfl]
    by_cases hk : k = f
    · rw [if_pos hk]
      by_cases h : g = k
      · have hb : (g == k) = true := beq_iff_eq.mpr h
        simp only [List.lookup, hb, if_pos (h.trans hk)]
      · have hb : (g == k) = false := beq_eq_false_iff_ne.mpr h
        simp only [List.lookup, hb, if_neg (fun e : g = f => h (e.trans hk.symm))]
    · rw [if_neg hk]
      by_cases h : g = k
      · have hb : (g == k) = true := beq_iff_eq.mpr h
        simp only [List.lookup, hb, if_neg (fun e : g = f => hk (h.symm.trans e))]
      · have hb : (g == k) = false := beq_eq_false_iff_ne.mpr h
        simp only [List.lookup, hb]
        exact ih
theorem keys_putF (f : Str) (v : V) : ∀ fs : List (Str × V), f ∈ (putF f v fs).map (·.1) ∧ ∀ g, g ∈ fs.map (·.1) → g ∈ (putF f v fs).map (·.1)
  | [] => ⟨by simp [putF], fun g h => by simp at h⟩
  | (k, x) :: r => by
    obtain ⟨i1, i2⟩ := keys_putF f v r
    rw [show putF f v ((k, x) :: r) = (if k = f then (k, v) :: r else (k, x) :: putF f v r) from rfl]
    by_cases hk : k = f
    · rw [if_pos hk]
      subst hk
      exact ⟨by simp, fun g h => by simpa using h⟩
    · rw [if_neg hk]
      refine ⟨?_, fun g h => ?_⟩
      · rw [List.map_cons]
        exact List.mem_cons_of_mem _ i1
      · rw [List.map_cons] at h ⊢
        rcases List.mem_cons.mp h with e | e
        · exact List.mem_cons.mpr (.inl e)
        · exact List.mem_cons_of_mem _ (i2 g e)
theorem length_putF (f : Str) (v : V) : ∀ fs : List (Str × V), (putF f v fs).length ≤ fs.length + 1
  | [] => by simp [putF]
  | (k, x) :: r => by
    have ih := length_putF f v r
    rw [show putF f v ((k, x) :: r) = (if k = f then (k, v) :: r else (k, x) :: putF f v r) from rfl]
    by_cases hk : k = f
    · rw [if_pos hk, List.length_cons, List.length_cons]; lia
    · rw [if_neg hk, List.length_cons, List.length_cons]; lia

theorem RelO.some_of {v : V} {o : Option Value} (r : RelO (some v) o) : ∃ u, o = some u ∧ RelV v u := by
  cases o with
  | none => exact (show False from r).elim
  | some u => exact ⟨u, rfl, r⟩
theorem RelO.none_of {o : Option Value} (r : RelO none o) : o = none := by
  cases o with
  | none => rfl
  | some u => exact (show False from r).elim
theorem handed_of {v : V} {u : Value} (r : RelV v u) : PySem.W.handedIn u = true := by
  cases v with
  | non => cases (show u = Value.none from r); rfl
  | bl b => cases (show u = Value.bool b from r); rfl
  | int i => obtain ⟨t, e⟩ := (show ∃ t, u = Value.int i t from r); cases e; rfl
  | str x => obtain ⟨t, e⟩ := (show ∃ t, u = Value.str x t from r); cases e; rfl
  | byt b => obtain ⟨t, e⟩ := (show ∃ t, u = Value.bytes b t from r); cases e; rfl
  | flt b => obtain ⟨t, e⟩ := (show ∃ t, u = Value.float b t from r); cases e; rfl
  | ref a => cases (show u = Value.ref a from r); rfl
  | ty n => cases (show u = Value.type n from r); rfl

section
variable {P : Program} {w : World} {H H' : Hp} {h h' : Heap} {a C dx : Addr} {fs fs' : List (Str × V)}
theorem ins_get (hok : HOk P w H h) (e : H a = some (.ins C dx fs)) : ∃ mA, ObjM h a dx C mA ∧ (∀ f, RelO (fs.lookup f) (mA f)) ∧ PySem.Within mA (fs.map (·.1)) ∧ fs.length ≤ 1000 ∧ H dx = some (.own a) := by
  obtain ⟨d, z, ne, ob, mA, n, r, q⟩ := (show ObjOk P w H h a (.ins C dx fs) from hok a _ e)
  exact ⟨mA, ⟨ob, n, ne⟩, r, q, z, d⟩
end


structure Cls (K : PySem.W.Frag) (C : Addr) : Prop where
  pg : PySem.W.plainGet K C Str.empty = true
  hd : PySem.W.hasDictIn K C = true
  po : PySem.W.plainOver K C = true
  sa : PySem.W.findIn K (.ref C) "__setattr__" = some (some (.builtin "object.__setattr__"))
theorem Cls.get {K : PySem.W.Frag} {C : Addr} (c : Cls K C) (f : Str) : PySem.W.plainGet K C f = true := c.pg

def NoAttr (K : PySem.W.Frag) (C : Addr) (f : Str) : Prop := PySem.W.findIn K (.ref C) f = some none
theorem NoAttr.taker {K : PySem.W.Frag} {C : Addr} {f : Str} (n : NoAttr K C f) : PySem.W.takerIn K C f = some none := by
  unfold PySem.W.takerIn
  rw [show PySem.W.findIn K (.ref C) f = some none from n]
  rfl

structure Con (K : PySem.W.Frag) (C : Addr) (f : Str) (v : V) (u : Value) : Prop where
  at_ : PySem.W.findIn K (.ref C) f = some (some u)
  rel : RelV v u
  get : PySem.W.specialIn K u "__get__" = some none
  cp : PySem.W.copiedNames.contains f = false

structure Meth (K : PySem.W.Frag) (C : Addr) (m : Str) (f : Addr) : Prop where
  at_ : PySem.W.findIn K (.ref C) m = some (some (.ref f))
  fn : PySem.W.isFn K (.ref f) = true
  kp : PySem.W.keepIn K (.ref f) = true

section
variable {X : Cx} {pins : List (Addr × Obj)} {σ : St} {H : Hp} {s : Shared} {a C dx : Addr} {fs : List (Str × V)} {f : Str} {v : V} {A : Around} {E : Value → Shared → Prop}

theorem getattr_ok {b : Bool} {Q : Value → Shared → Prop} (I : Inv X pins σ H s) (e : H a = some (.ins C dx fs)) (c : Cls X.K C) (n : NoAttr X.K C f) (l : fs.lookup f = some v)
    (h : ∀ u s', Inv X pins σ H s' → RelV v u → Q u s') : wpAny (model X.prog X.w) A (getAttr (.ref a) f b) Q E s := by
  obtain ⟨mA, O, r, _, _, _⟩ := ins_get I.hok e
  obtain ⟨u, hu, ru⟩ := RelO.some_of (v := v) (o := mA f) (by rw [← l]; exact r f)
  exact get_map I.kIn O (c.get f) c.hd n hu (handed_of ru) (h u _ (I.tok _) ru)

theorem getmeth_ok {m : Str} {g : Addr} {pl : Sem Bool} {Q : Value × List Value → Shared → Prop} (I : Inv X pins σ H s) (e : H a = some (.ins C dx fs)) (c : Cls X.K C) (k : Meth X.K C m g) (l : fs.lookup m = none)
    (h : Q (.ref g, [.ref a]) s) : wpAny (model X.prog X.w) A (getMethod (.ref a) m pl) Q E s := by
  obtain ⟨mA, O, r, _, _, _⟩ := ins_get I.hok e
  have hn : mA m = none := RelO.none_of (by rw [← l]; exact r m)
  exact get_meth I.kIn O (c.get m) k.at_ k.fn hn h

theorem setattr_ok {y : V} {u : Value} {Q : Unit → Shared → Prop} (I : Inv X pins σ H s) (e : H a = some (.ins C dx fs)) (c : Cls X.K C) (n : NoAttr X.K C f) (hl : fs.length < 1000) (ry : RelV y u)
    (h : ∀ s', Inv X pins σ (upd H a (.ins C dx (putF f y fs))) s' → Q () s') : wpAny (model X.prog X.w) A (setAttr (.ref a) f u) Q E s := by
  obtain ⟨mA, O, r, wi, _, ho⟩ := ins_get I.hok e
  have hz : (fs.map (·.1)).length ≤ sizeLine := by rw [List.length_map, sizeLine_eq]; lia
  refine set_map I.kIn O c.sa c.po n.taker c.hd wi hz fun h' O' sb => h _ ?_
  have hd : ∃ o, h'.get? dx = some o := let ⟨o, _, _, e', _⟩ := O'.ns; ⟨o, e'⟩
  refine I.write (x := a) (e := dx) (by rw [e]; exact True.intro) (.inr ho) (fun b q hb z => (sb.2 b hb).trans z) hd ?_
  refine ⟨by rw [upd_ne O.ne]; exact ho, ?_, O.ne, O'.obj, _, O'.ns, fun g => ?_, fun g hg => ?_⟩
  · have := length_putF f y fs; lia
  · show RelO ((putF f y fs).lookup g) (if g = f then some u else mA g)
    rw [lookup_putF]
    by_cases q : g = f
    · rw [if_pos q, if_pos q]; exact ry
    · rw [if_neg q, if_neg q]; exact r g
  · by_cases q : g = f
    · rw [q]; exact (keys_putF f y fs).1
    · refine (keys_putF f y fs).2 g (wi g fun z => hg ?_)
      show (if g = f then some u else mA g) = none
      rw [if_neg q]; exact z


theorem Inv.made (I : Inv X pins σ H s) : Inv X pins σ (upd (upd H s.heap.objs.size (.own (s.heap.objs.size + 1))) (s.heap.objs.size + 1) (.ins C s.heap.objs.size []))
    { s with heap := (s.heap.push PySem.W.emptyDict).push (PySem.W.instObj C s.heap.objs.size) } := by
  have e1 : (s.heap.push PySem.W.emptyDict).get? s.heap.objs.size = some PySem.W.emptyDict := Heap.get?_push_size s.heap rfl
  have e2 : ((s.heap.push PySem.W.emptyDict).push (PySem.W.instObj C s.heap.objs.size)).get? (s.heap.objs.size + 1) = some (PySem.W.instObj C s.heap.objs.size) := by
    have := Heap.get?_push_size (s.heap.push PySem.W.emptyDict) (o := PySem.W.instObj C s.heap.objs.size) rfl
    rwa [Heap.size_push] at this
  have e3 : (s.heap.push PySem.W.emptyDict).Ns s.heap.objs.size (fun _ => none) := ⟨PySem.W.emptyDict, #[], _, e1, rfl, (fun e he => absurd he (by simp)), fun _ => rfl⟩
  have I1 := I.laid (a := s.heap.objs.size) (o := .own (s.heap.objs.size + 1)) (h' := s.heap.push PySem.W.emptyDict) (t' := s.toks) (fun b u q => Heap.get?_push_of_some _ q) (Nat.le_refl _) ⟨_, e1⟩
  refine I1.laid (a := s.heap.objs.size + 1) (o := .ins C s.heap.objs.size []) (t' := s.toks) (fun b u q => Heap.get?_push_of_some _ q) (Nat.le_of_eq (Heap.size_push _ _)) ?_
  have ne : s.heap.objs.size ≠ s.heap.objs.size + 1 := Nat.ne_of_lt (Nat.lt_succ_self _)
  refine ⟨by rw [upd_ne ne, upd_same], Nat.zero_le _, ne, e2, fun _ => none, (Heap.Ns1.of_empty e3).at fun o q => Heap.get?_push_of_some _ q, fun _ => True.intro, fun y hy => absurd rfl hy⟩


theorem attr_of {prog : Program} {w : World} {env : Env} {e : Expr} {f : Str} {pos : Pos} {s : Shared} {Q : Value → Shared → Prop} (hb : attributeBase e f env (eval e env) = eval e env)
    (h : wpAny (model prog w) A (eval e env) (fun o s₁ => wpAny (model prog w) A (getAttr o f true) Q E s₁) E s) : wpAny (model prog w) A (eval (.Attribute e f pos) env) Q E s :=
  Attribute_any_ h (by rw [arm_eval_Attribute, hb])
end



inductive tFld_ (K : PySem.W.Frag) (f : Str) (Q : VK) (x : V) (H1 : Hp) : Prop where
  | mk (a : _) (C : _) (dx : _) (fs : _) (v : _) (h0_ : x = .ref a) (h1_ : H1 a = some (.ins C dx fs)) (h2_ : Cls K C) (h3_ : NoAttr K C f) (h4_ : fs.lookup f = some v) (h5_ : Q v H1) : tFld_ K f Q x H1
def tFld (K : PySem.W.Frag) (ta : TE) (f : Str) : TE := fun σ H Q => ta σ H fun x H1 => tFld_ K f Q x H1

inductive sFld_ (K : PySem.W.Frag) (f : Str) (D : Ends) (σ : St) (y : V) (x : V) (H2 : Hp) : Prop where
  | mk (a : _) (C : _) (dx : _) (fs : _) (h0_ : x = .ref a) (h1_ : H2 a = some (.ins C dx fs)) (h2_ : Cls K C) (h3_ : NoAttr K C f) (h4_ : fs.length < 1000) (h5_ : D.nx σ (upd H2 a (.ins C dx (putF f y fs)))) : sFld_ K f D σ y x H2
def sFld (K : PySem.W.Frag) (ta tv : TE) (f : Str) : TS := fun D σ H => tv σ H fun y H1 => ta σ H1 fun x H2 => sFld_ K f D σ y x H2

section
variable {X : Cx} {o e value : Expr} {f : Str} {pos pos' tpos : Pos} {ta tv : TE}
theorem pe_fld (he : PE X e ta) (hb : attributeBase e f X.env (eval e X.env) = eval e X.env) : PE X (.Attribute e f pos) (tFld X.K ta f) := by
  intro pins s σ H Q I h
  refine attr_of hb (thn (he pins s σ H _ I h) fun u s1 ⟨x, H1, I1, rx, a, C, dx, fs, v, ex, ea, c, n, l, q⟩ => ?_)
  subst ex
  obtain rfl : u = Value.ref a := rx
  exact getattr_ok I1 ea c n l fun u' s2 I2 ru => ⟨v, H1, I2, ru, q⟩
theorem ps_fld (ha : PE X o ta) (hv : PE X value tv) (hs : swapsWith value (some (.Attribute o f pos')) pos.line X.env = pure false) : PS X (.Assign [.Attribute o f pos'] value pos) (sFld X.K ta tv f) := by
  intro pins s σ H D I h
  refine plainObj_wpAny_Assign_Attribute (thn (hv pins s σ H _ I h) fun u s1 ⟨y, H1, I1, ry, q⟩ => thn (ha pins s1 σ H1 _ I1 q) fun ov s2 ⟨x, H2, I2, rx, a, C, dx, fs, ex, ea, c, n, l, q2⟩ => ?_) hs
  subst ex
  obtain rfl : ov = Value.ref a := rx
  exact setattr_ok I2 ea c n l ry fun s3 I3 => ⟨σ, _, I3, q2⟩
end


section
variable {X : Cx} {pins : List (Addr × Obj)} {σ : St} {H : Hp} {s : Shared} {A : Around} {E : Value → Shared → Prop} {Q : Value → Shared → Prop} {c : Value} {b : Bool}

inductive TyOf (K : PySem.W.Frag) (H : Hp) : V → Value → Prop where
  | non : TyOf K H .non (.type "NoneType")
  | bl (x : Bool) : TyOf K H (.bl x) (.type "bool")
  | int (i : Int) : TyOf K H (.int i) (.type "int")
  | str (x : Str) : TyOf K H (.str x) (.type "str")
  | flt (x : UInt64) : TyOf K H (.flt x) (.type "float")
  | lst {a : Addr} {xs : List V} (e : H a = some (.lst xs)) : TyOf K H (.ref a) (.type "list")
  | frz {a : Addr} {o : Obj} {xs : List V} (e : H a = some (.frz o (.lst xs))) : TyOf K H (.ref a) (.type "list")
  | tup {a : Addr} {xs : List V} (e : H a = some (.tup xs)) : TyOf K H (.ref a) (.type "tuple")
  | dK {a : Addr} {kvs : List (Key × V)} (e : H a = some (.dK kvs)) : TyOf K H (.ref a) (.type "dict")
  | dT {a : Addr} {kvs : List (List Key × V)} (e : H a = some (.dT kvs)) : TyOf K H (.ref a) (.type "dict")
  | ins {a C dx : Addr} {fs : List (Str × V)} (e : H a = some (.ins C dx fs)) (cl : Cls K C) (ha : PySem.W.findIn K (.ref C) "__class__" = some (some (.builtin "object.__class__")))
      (hn : PySem.W.specialIn K (.builtin "object.__class__") "__get__" = some (some (.builtin "getset_descriptor.__get__"))) (htk : PySem.W.takesIn K (.builtin "object.__class__") = some true)
      (hm : PySem.W.mroIn K C (.type "object") = some true) : TyOf K H (.ref a) (.ref C)

theorem isinst_ok {x : V} {u t : Value} (I : Inv X pins σ H s) (rx : RelV x u) (ty : TyOf X.K H x t) (e : PySem.W.kitOne X.K t c = some b) (h : ∀ tk, Q (.bool b) { s with toks := tk }) :
    wpAny (model X.prog X.w) A (call (.builtin "isinstance") [u, c]) Q E s := by
  cases ty with
  | non => cases (show u = Value.none from rx); exact PySem.W.kia_one PySem.W.kitx_none I.kIn True.intro e (fun z => nomatch z) h
  | bl y => cases (show u = Value.bool y from rx); exact PySem.W.kia_one PySem.W.kitx_bool I.kIn True.intro e (fun z => nomatch z) h
  | int i => obtain ⟨t, q⟩ := (show ∃ t, u = Value.int i t from rx); cases q; exact PySem.W.kia_one PySem.W.kitx_int I.kIn True.intro e (fun z => nomatch z) h
  | str y => obtain ⟨t, q⟩ := (show ∃ t, u = Value.str y t from rx); cases q; exact PySem.W.kia_one PySem.W.kitx_str I.kIn True.intro e (fun z => nomatch z) h
  | flt y => obtain ⟨t, q⟩ := (show ∃ t, u = Value.float y t from rx); cases q; exact PySem.W.kia_one PySem.W.kitx_float I.kIn True.intro e (fun z => nomatch z) h
  | @lst a xs ea =>
    cases (show u = Value.ref a from rx)
    obtain ⟨_, _, n, _, h1⟩ := (show ObjOk X.prog X.w H s.heap a (.lst xs) from I.hok a _ ea)
    exact PySem.W.kia_one PySem.W.kitx_list I.kIn ⟨_, h1, rfl⟩ e (fun z => nomatch z) h
  | @frz a ob xs ea =>
    cases (show u = Value.ref a from rx)
    obtain ⟨_, _, _, n, _, h1⟩ := (show ObjOk X.prog X.w H s.heap a (.frz ob (.lst xs)) from I.hok a _ ea)
    exact PySem.W.kia_one PySem.W.kitx_list I.kIn ⟨_, h1, rfl⟩ e (fun z => nomatch z) h
  | @tup a xs ea =>
    cases (show u = Value.ref a from rx)
    obtain ⟨_, _, _, p⟩ := (show ObjOk X.prog X.w H s.heap a (.tup xs) from I.hok a _ ea)
    obtain ⟨o, h1, h2, _⟩ := p
    exact PySem.W.kia_one PySem.W.kitx_tuple I.kIn ⟨o, h1, h2⟩ e (fun z => nomatch z) h
  | @dK a kvs ea =>
    cases (show u = Value.ref a from rx)
    obtain ⟨_, _, vs, _, p⟩ := (show ObjOk X.prog X.w H s.heap a (.dK kvs) from I.hok a _ ea)
    obtain ⟨o, es, ep, h1, h2, _⟩ := p
    exact PySem.W.kia_one PySem.W.kitx_dict I.kIn ⟨o, h1, h2.1⟩ e (fun z => nomatch z) h
  | @dT a kvs ea =>
    cases (show u = Value.ref a from rx)
    obtain ⟨_, _, xs, _, o, es, ep, h1, h2, _⟩ := (show ObjOk X.prog X.w H s.heap a (.dT kvs) from I.hok a _ ea)
    exact PySem.W.kia_one PySem.W.kitx_dict I.kIn ⟨o, h1, h2.1⟩ e (fun z => nomatch z) h
  | @ins a C dx fs ea cl ha hn htk hm =>
    cases (show u = Value.ref a from rx)
    obtain ⟨mA, O, _⟩ := ins_get I.hok ea
    obtain ⟨od, J, _⟩ := O.look
    exact PySem.W.kia_one (PySem.W.kitx_own (cl.get _) cl.hd ha hn htk hm) I.kIn J e (fun z => nomatch z) h
end
end L2

namespace L2
open PySem PySem.Spec PyProof.Rows


structure Room (k : Nat) (A : Around) : Prop where
  hd : A.handled = none
  dp : A.depth + 3 * k + 5 < recursionLimit
  un : A.units + 16 * k + 200 < cLine
theorem Room.mono {j k : Nat} {A : Around} (r : Room k A) (h : j ≤ k) : Room j A := ⟨r.hd, by have := r.dp; lia, by have := r.un; lia⟩
theorem Room.deeper {k : Nat} {A : Around} (r : Room (k + 1) A) (env : Env) : Room k (A.deeper env) :=
  ⟨r.hd, by have := r.dp; show A.depth + 1 + 3 * k + 5 < _; lia, by have := r.un; show A.units + 3 + 16 * k + 200 < _; lia⟩
theorem Room.in1 {k : Nat} {A : Around} (r : Room (k + 1) A) : Room k A.in1 :=
  ⟨r.hd, by have := r.dp; show A.depth + 3 * k + 5 < _; lia, by have := r.un; show A.units + 1 + 16 * k + 200 < _; lia⟩
theorem make_depth {A : Around} {C : Addr} {us : List Value} {kw : List (Str × Value)} : (A.under (.builtin "type.__call__" ⟨.ref C :: us, kw⟩)).depth = A.depth + 1 := by
  first | rfl | simp [Around.under, Code.weight, Code.isCreation, Code.isGuard, Code.isCaller, Code.frames, Code.isFrame, guardIds]
theorem make_units {A : Around} {C : Addr} {us : List Value} {kw : List (Str × Value)} : (A.under (.builtin "type.__call__" ⟨.ref C :: us, kw⟩)).units = A.units + 1 := by
  first | rfl | simp [Around.under, Code.cUnits, Code.frames, Code.isFrame]
theorem Room.make {k : Nat} {A : Around} (r : Room (k + 1) A) (C : Addr) (us : List Value) (kw : List (Str × Value)) : Room k (A.under (.builtin "type.__call__" ⟨.ref C :: us, kw⟩)) :=
  ⟨r.hd, by have := r.dp; rw [make_depth]; omega, by have := r.un; rw [make_units]; omega⟩
theorem Room.depth {k : Nat} {A : Around} (r : Room k A) : A.depth < recursionLimit := by have := r.dp; omega
theorem Room.units {k : Nat} {A : Around} (r : Room k A) : A.units + 64 < cLine := by have := r.un; lia
def tNil : TA := fun _ H Q => Q [] H
def tCons (ta : TE) (tr : TA) : TA := fun σ H Q => ta σ H fun x H1 => tr σ H1 fun xs H2 => Q (x :: xs) H2
section
variable {X : Cx} {e : Expr} {es : List Expr} {te : TE} {t : TA} {pos : Pos}
theorem pa_nil : PA X [] tNil := fun _ _ _ _ H Q I h => Calls.spliced_nil ⟨[], H, I, .nil, h⟩
theorem pa_cons (ha : PE X e te) (hr : PA X es t) (hs : starEach (e :: es) X.env = (false, eval e X.env) :: starEach es X.env := by rfl) : PA X (e :: es) (tCons te t) := by
  intro pos pins s σ H Q I h
  rw [hs]
  show wpAny _ _ (spliced ((false, eval e X.env) :: backTo pos (starEach es X.env))) _ _ s
  refine Calls.spliced_cons (thn (ha pins s σ H _ I h) fun u s1 ⟨x, H1, I1, r1, q1⟩ => ?_)
  exact thn (hr pos pins s1 σ H1 _ I1 q1) fun us s2 ⟨xs, H2, I2, r2, q2⟩ => ⟨x :: xs, H2, I2, .cons r1 r2, q2⟩


inductive tLst_ (Q : VK) (xs : List V) (H1 : Hp) : Prop where
  | mk  (h0_ : xs.length ≤ sizeLine) (h1_ : ∀ p, H1 p = none → Q (.ref p) (upd H1 p (.lst xs))) : tLst_ Q xs H1
def tLst (t : TA) : TE := fun σ H Q => t σ H fun xs H1 => tLst_ Q xs H1
theorem pe_lst (h : PA X es t) : PE X (.List es pos) (tLst t) := by
  intro pins s σ H Q I hq
  refine wpAny_List_spliced (thn (h pos pins s σ H _ I hq) fun us s1 ⟨xs, H1, I1, r, z, q⟩ => ⟨by rw [← r.length]; exact z, ?_⟩)
  have hf : H1 s1.heap.objs.size = none := I1.hok.fresh (Nat.le_refl _)
  refine ⟨.ref s1.heap.objs.size, upd H1 s1.heap.objs.size (.lst xs), I1.laid (t' := s1.toks) (fun b u e => Heap.get?_push_of_some _ e) (Nat.le_refl _) ?_, rfl, q _ hf⟩
  exact ⟨z, us, 0, r, Heap.get?_push_size _ rfl⟩
end



abbrev Sp := List V → Hp → VK → XK → Prop

abbrev CXT := List Env → Hp → Shared → XK → Value → Shared → Prop


structure Env0 (P : Program) (w : World) (K : PySem.W.Frag) (mg : Str → Option Value) (base : Heap) (A : Around) (outer : List Env) (s : Shared) (H : Hp) : Prop where
  frames : A.frames = some outer
  mod : Mod K mg base
  bs : ∀ b o, base.get? b = some o → s.heap.get? b = some o ∧ H b = none
  bsz : base.objs.size ≤ s.heap.objs.size
  funs : s.heap.FunFrames base outer
  frf : ∀ b ∈ frs outer, H b = none
  hok : HOk P w H s.heap
  bare : AllBare s.gens

def CE (outer : List Env) (P : Program) (w : World) (H : Hp) (s : Shared) (Q : VK) (u : Value) (s' : Shared) : Prop :=
  ∃ v H', s'.os = s.os ∧ AllBare s'.gens ∧ Un (frs outer) [] H H' s.heap s'.heap ∧ HOk P w H' s'.heap ∧ RelV v u ∧ Q v H'
def CR (CX : CXT) (outer : List Env) (P : Program) (w : World) (H : Hp) (s : Shared) (Q : VK) (E : XK) (r : Result) (s' : Shared) : Prop :=
  match r with
  | .ok (.ret u) => CE outer P w H s Q u s'
  | .ok _ => False
  | .error e => CX outer H s E e s'
structure FnOk (P : Program) (w : World) (K : PySem.W.Frag) (mg : Str → Option Value) (base : Heap) (CX : CXT) (k : Nat) (f : Addr) (fd : FuncData) (ps : List Str) (sp : Sp) : Prop where
  len : ∀ vs H Q E, sp vs H Q E → vs.length = ps.length
  run : ∀ (A : Around) (outer : List Env) (s : Shared) (H : Hp) (args : Args) (us : List Value) (vs : List V) (Q : VK) (E : XK), Room k A → Env0 P w K mg base A outer s H → BindsTo s fd args (ps.zip us) → Vals vs us → sp vs H Q E →
    codeAny (model P w) A (.call (.ref f) args) (CR CX outer P w H s Q E) s
theorem FnOk.mono {P : Program} {w : World} {K : PySem.W.Frag} {mg : Str → Option Value} {base : Heap} {CX : CXT} {j k : Nat} {f : Addr} {fd : FuncData} {ps : List Str} {sp : Sp} (F : FnOk P w K mg base CX j f fd ps sp) (h : j ≤ k) :
    FnOk P w K mg base CX k f fd ps sp := ⟨F.len, fun A outer s H args us vs Q E hr => F.run A outer s H args us vs Q E (hr.mono h)⟩

theorem FnOk.imp {P : Program} {w : World} {K : PySem.W.Frag} {mg : Str → Option Value} {base : Heap} {CX : CXT} {k : Nat} {f : Addr} {fd : FuncData} {ps : List Str} {sp sp' : Sp} (F : FnOk P w K mg base CX k f fd ps sp)
    (h : ∀ vs H Q E, sp' vs H Q E → sp vs H Q E) : FnOk P w K mg base CX k f fd ps sp' :=
  ⟨fun vs H Q E q => F.len vs H Q E (h _ _ _ _ q), fun A outer s H args us vs Q E hr he hb hv hs => F.run A outer s H args us vs Q E hr he hb hv (h _ _ _ _ hs)⟩

theorem Env0.make {P : Program} {w : World} {K : PySem.W.Frag} {mg : Str → Option Value} {base : Heap} {A : Around} {outer : List Env} {s : Shared} {H : Hp} (e : Env0 P w K mg base A outer s H) (C : Addr) (us : List Value) (kw : List (Str × Value)) :
    Env0 P w K mg base (A.under (.builtin "type.__call__" ⟨.ref C :: us, kw⟩)) outer s H := ⟨by first | exact e.frames | (simpa [Around.under, Code.envs, Code.isFrame, pushEnvs] using e.frames), e.mod, e.bs, e.bsz, e.funs, e.frf, e.hok, e.bare⟩
theorem Env0.in1 {P : Program} {w : World} {K : PySem.W.Frag} {mg : Str → Option Value} {base : Heap} {A : Around} {outer : List Env} {s : Shared} {H : Hp} (e : Env0 P w K mg base A outer s H) :
    Env0 P w K mg base A.in1 outer s H := ⟨e.frames, e.mod, e.bs, e.bsz, e.funs, e.frf, e.hok, e.bare⟩

section
variable {X : Cx} {pins : List (Addr × Obj)} {σ : St} {H : Hp} {s s' : Shared}

theorem Inv.env0 (I : Inv X pins σ H s) : Env0 X.prog X.w X.K X.mg X.base X.A X.stack s H :=
  ⟨I.ok.frames, I.ok.mod, I.bs, Nat.le_trans I.ok.bsz I.sz, I.stack, I.stkFree, I.hok, I.bare⟩

theorem Inv.after {Q : VK} {u : Value} (I : Inv X pins σ H s) (h : CE X.stack X.prog X.w H s Q u s') : EP X pins σ Q u s' := by
  obtain ⟨v, H', os, bare, un, hok, r, q⟩ := h
  obtain ⟨hh, g, d, t, os'⟩ := s'
  obtain rfl : os' = s.os := os
  exact ⟨v, H', I.call (h' := hh) (g' := g) (d' := d) (t' := t) (ch := []) un hok bare (fun b z => absurd z (by simp)), r, q⟩
end



def tCall (sp : Sp) (dvs : List V) (E : XK) (t : TA) : TE := fun σ H Q => t σ H fun vs H1 => sp (vs ++ dvs) H1 Q E

inductive tMeth_ (C : Addr) (m : Str) (sp : Sp) (dvs : List V) (E : XK) (t : TA) (σ : St) (Q : VK) (x : V) (H1 : Hp) : Prop where
  | mk (a : _) (dx : _) (fs : _) (h0_ : x = .ref a) (h1_ : H1 a = some (.ins C dx fs)) (h2_ : fs.lookup m = none) (h3_ : t σ H1 fun vs H2 => sp (x :: (vs ++ dvs)) H2 Q E) : tMeth_ C m sp dvs E t σ Q x H1
def tMeth (C : Addr) (m : Str) (sp : Sp) (dvs : List V) (E : XK) (ta : TE) (t : TA) : TE := fun σ H Q => ta σ H fun x H1 => tMeth_ C m sp dvs E t σ Q x H1

def tMake (C : Addr) (sp : Sp) (dvs : List V) (E : XK) (t : TA) : TE := fun σ H Q => t σ H fun vs H1 => ∀ x dx, H1 x = none → H1 dx = none → dx ≠ x →
  sp (.ref x :: (vs ++ dvs)) (upd (upd H1 dx (.own x)) x (.ins C dx [])) (fun v H2 => v = .non ∧ Q (.ref x) H2) E


def Binds (K : PySem.W.Frag) (fd : FuncData) (ps : List Str) (ds : List Value) : Prop :=
  ∀ (s : Shared) (us : List Value), K.In s.heap → (us ++ ds).length = ps.length → BindsTo s fd ⟨us, []⟩ (ps.zip (us ++ ds))

theorem Binds.all {K : PySem.W.Frag} {fd : FuncData} {ps : List Str} (h : ∀ us : List Value, us.length = ps.length → bindArgs fd ⟨us, []⟩ = pure (ps.zip us)) : Binds K fd ps [] := fun s us _ hl => by
  rw [List.append_nil] at hl ⊢
  exact .of_eq (h us hl)


def Passes (CX : CXT) (X : Cx) (E : XK) : Prop := ∀ (pins : List (Addr × Obj)) (σ : St) (H : Hp) (s : Shared) (e : Value) (s' : Shared), Inv X pins σ H s → CX X.stack H s E e s' → X.xe e s'

section
variable {X : Cx} {CX : CXT} {k : Nat} {f C : Addr} {fd : FuncData} {ps : List Str} {sp : Sp} {dvs : List V} {ds : List Value} {E : XK} {x m : Str} {p pos apos : Pos} {e o : Expr} {es : List Expr} {ta : TE} {t : TA}


theorem run_fn {pins : List (Addr × Obj)} {σ : St} {H : Hp} {s : Shared} {Q : VK} {us : List Value} {vs : List V} (F : FnOk X.prog X.w X.K X.mg X.base CX k f fd ps sp) (hr : Room k X.A) (hb : Binds X.K fd ps ds) (hd : Vals dvs ds) (hx : Passes CX X E)
    (I : Inv X pins σ H s) (r : Vals vs us) (h : sp (vs ++ dvs) H Q E) : wpAny (model X.prog X.w) X.A (call (.ref f) us) (EP X pins σ Q) X.xe s := by
  have r2 : Vals (vs ++ dvs) (us ++ ds) := r.append hd
  have hl : (us ++ ds).length = ps.length := by rw [← r2.length]; exact F.len _ _ _ _ h
  refine wpAny_call (codeAny_mono (F.run X.A X.stack s H ⟨us, []⟩ (us ++ ds) (vs ++ dvs) Q E hr I.env0 (hb s us I.kIn hl) r2 h) fun r s' hq => ?_)
  cases r with
  | error e => exact hx pins σ H s e s' I hq
  | ok fl =>
    cases fl with
    | ret u => exact I.after hq
    | next => exact False.elim hq
    | brk => exact False.elim hq
    | cont => exact False.elim hq

theorem pe_call (F : FnOk X.prog X.w X.K X.mg X.base CX k f fd ps sp) (hr : Room k X.A) (hg : Gl X x) (hm : X.mg x = some (.ref f)) (hk : PySem.W.keepIn X.K (.ref f) = true) (hb : Binds X.K fd ps ds) (hd : Vals dvs ds) (hx : Passes CX X E)
    (ha : PA X (e :: es) t) (hdb : (x == ("__debug__" : Str)) = false := by decide) (he : starEach (e :: es) X.env = (false, eval e X.env) :: starEach es X.env := by rfl) (hpl : (backTo pos (starEach es X.env)).any (·.1) = false := by rfl) :
    PE X (.Call (.Name x p) (e :: es) [] pos) (tCall sp dvs E t) := by
  intro pins s σ H Q I h
  refine wpAny_Call_Name_kw (ld_glob I hg hm ?_ hdb)
  refine PySem.W.callWith_K (h₀ := X.base) I.ok.mod.kin hk (thn (ha pos pins s σ H _ I h) fun us s1 ⟨vs, H1, I1, r, q⟩ => ⟨I1.kIn, ?_⟩) he hpl
  exact run_fn F hr hb hd hx I1 r q
theorem pe_meth {pl : Sem Bool} (he : PE X o ta) (c : Cls X.K C) (hm : Meth X.K C m f) (F : FnOk X.prog X.w X.K X.mg X.base CX k f fd ps sp) (hr : Room k X.A) (hb : Binds X.K fd ps ds) (hd : Vals dvs ds) (hx : Passes CX X E) (ha : PA X (e :: es) t)
    (hst : starEach (e :: es) X.env = (false, eval e X.env) :: starEach es X.env := by rfl) (hpl : (backTo pos (starEach es X.env)).any (·.1) = false := by rfl)
    (ht : eval (.Call (.Attribute o m apos) (e :: es) [] pos) X.env = (do
      let ov ← eval o X.env
      standAt apos.atName
      let (f, first) ← holding [ov] (getMethod ov m pl)
      callWith pos f first (backTo pos (starEach (e :: es) X.env)) (backToKw pos (keywordEach [] X.env))) := by rfl) :
    PE X (.Call (.Attribute o m apos) (e :: es) [] pos) (tMeth C m sp dvs E ta t) := by
  intro pins s σ H Q I h
  refine PySem.W.methodCall_KW (pl := pl) (thn (he pins s σ H _ I h) fun u s1 ⟨x, H1, I1, rx, a, dx, fs, ex, ea, l, q⟩ => ?_) ht
  subst ex
  obtain rfl : u = Value.ref a := rx
  refine getmeth_ok I1 ea c hm l ?_
  refine PySem.W.callWith_K (first := [.ref a]) (h₀ := X.base) I.ok.mod.kin hm.kp (thn (ha pos pins s1 σ H1 _ I1 q) fun us s2 ⟨vs, H2, I2, r, q2⟩ => ⟨I2.kIn, ?_⟩) hst hpl
  exact run_fn (us := .ref a :: us) (vs := .ref a :: vs) F hr hb hd hx I2 (.cons rfl r) q2

theorem pe_meth0 {pl : Sem Bool} (he : PE X o ta) (c : Cls X.K C) (hm : Meth X.K C m f) (F : FnOk X.prog X.w X.K X.mg X.base CX k f fd ps sp) (hr : Room k X.A) (hb : Binds X.K fd ps ds) (hd : Vals dvs ds) (hx : Passes CX X E)
    (ht : eval (.Call (.Attribute o m apos) [] [] pos) X.env = (do
      let ov ← eval o X.env
      standAt apos.atName
      let (f, first) ← holding [ov] (getMethod ov m pl)
      callWith pos f first (backTo pos (starEach [] X.env)) (backToKw pos (keywordEach [] X.env))) := by rfl) :
    PE X (.Call (.Attribute o m apos) [] [] pos) (tMeth C m sp dvs E ta tNil) := by
  intro pins s σ H Q I h
  refine PySem.W.methodCall_KW (pl := pl) (thn (he pins s σ H _ I h) fun u s1 ⟨x, H1, I1, rx, a, dx, fs, ex, ea, l, q⟩ => ?_) ht
  subst ex
  obtain rfl : u = Value.ref a := rx
  refine getmeth_ok I1 ea c hm l ?_
  exact PySem.W.callWith_K0 (first := [.ref a]) I1.kIn hm.kp (run_fn (us := [.ref a]) (vs := [.ref a]) F hr hb hd hx I1 (.cons rfl .nil) q)


structure Mk (K : PySem.W.Frag) (C f : Addr) : Prop where
  makes : PySem.W.makesIn K C = true
  init : PySem.W.findIn K (.ref C) "__init__" = some (some (.ref f))
  fn : PySem.W.isFn K (.ref f) = true
  kp : PySem.W.keepIn K (.ref C) = true

theorem run_make {pins : List (Addr × Obj)} {σ : St} {H : Hp} {s : Shared} {Q : VK} {us : List Value} {vs : List V} (M : Mk X.K C f) (F : FnOk X.prog X.w X.K X.mg X.base CX k f fd ps sp) (hr : Room (k + 1) X.A) (hb : Binds X.K fd ps ds) (hd : Vals dvs ds)
    (hx : Passes CX X E) (I : Inv X pins σ H s) (r : Vals vs us)
    (h : ∀ x dx, H x = none → H dx = none → dx ≠ x → sp (.ref x :: (vs ++ dvs)) (upd (upd H dx (.own x)) x (.ins C dx [])) (fun v H2 => v = .non ∧ Q (.ref x) H2) E) :
    wpAny (model X.prog X.w) X.A (call (.ref C) us) (EP X pins σ Q) X.xe s := by
  have hq := h (s.heap.objs.size + 1) s.heap.objs.size (I.hok.fresh (Nat.le_succ _)) (I.hok.fresh (Nat.le_refl _)) (Nat.ne_of_lt (Nat.lt_succ_self _))
  have I2 := Inv.made (C := C) I
  have r2 : Vals (V.ref (s.heap.objs.size + 1) :: (vs ++ dvs)) (Value.ref (s.heap.objs.size + 1) :: (us ++ ds)) := .cons rfl (r.append hd)
  have hl : (Value.ref (s.heap.objs.size + 1) :: us ++ ds).length = ps.length := by
    have e := r2.length
    rw [F.len _ _ _ _ hq] at e
    exact e.symm
  refine wpAny_call (make_map (f := f) I.kIn M.makes M.init (beq_iff_eq.mp M.fn) (codeAny_mono (F.run _ X.stack _ _ ⟨Value.ref (s.heap.objs.size + 1) :: us, []⟩ (Value.ref (s.heap.objs.size + 1) :: (us ++ ds)) _ _ E (hr.make C us [])
    (I2.env0.make C us []) (hb _ (Value.ref (s.heap.objs.size + 1) :: us) I2.kIn hl) r2 hq) fun r s' hq' => ?_))
  cases r with
  | error e => exact hx pins σ _ _ e s' I2 hq'
  | ok fl =>
    cases fl with
    | ret u =>
      obtain ⟨v, H', I3, rv, ev, q3⟩ := I2.after hq'
      subst ev
      exact ⟨rv, ⟨V.ref (s.heap.objs.size + 1), H', I3, rfl, q3⟩⟩
    | next => exact False.elim hq'
    | brk => exact False.elim hq'
    | cont => exact False.elim hq'
theorem pe_make (M : Mk X.K C f) (F : FnOk X.prog X.w X.K X.mg X.base CX k f fd ps sp) (hr : Room (k + 1) X.A) (hg : Gl X x) (hm : X.mg x = some (.ref C)) (hb : Binds X.K fd ps ds) (hd : Vals dvs ds) (hx : Passes CX X E)
    (ha : PA X (e :: es) t) (hdb : (x == ("__debug__" : Str)) = false := by decide) (he : starEach (e :: es) X.env = (false, eval e X.env) :: starEach es X.env := by rfl) (hpl : (backTo pos (starEach es X.env)).any (·.1) = false := by rfl) :
    PE X (.Call (.Name x p) (e :: es) [] pos) (tMake C sp dvs E t) := by
  intro pins s σ H Q I h
  refine wpAny_Call_Name_kw (ld_glob I hg hm ?_ hdb)
  refine PySem.W.callWith_K (h₀ := X.base) I.ok.mod.kin M.kp (thn (ha pos pins s σ H _ I h) fun us s1 ⟨vs, H1, I1, r, q⟩ => ⟨I1.kIn, ?_⟩) he hpl
  exact run_make M F hr hb hd hx I1 r q
theorem pe_make0 (M : Mk X.K C f) (F : FnOk X.prog X.w X.K X.mg X.base CX k f fd ps sp) (hr : Room (k + 1) X.A) (hg : Gl X x) (hm : X.mg x = some (.ref C)) (hb : Binds X.K fd ps ds) (hd : Vals dvs ds) (hx : Passes CX X E)
    (hdb : (x == ("__debug__" : Str)) = false := by decide) : PE X (.Call (.Name x p) [] [] pos) (tMake C sp dvs E tNil) := by
  intro pins s σ H Q I h
  refine wpAny_Call_Name_kw (ld_glob I hg hm ?_ hdb)
  exact PySem.W.callWith_K0 I.kIn M.kp (run_make (us := []) M F hr hb hd hx I .nil h)
end



section
variable {X : Cx} {CX : CXT} {k : Nat} {f C : Addr} {fd : FuncData} {ps ks : List Str} {sp : Sp} {E : XK} {x m : Str} {p pos apos kpos : Pos} {e o : Expr} {es : List Expr} {kws : List Keyword} {te ta : TE} {t tk : TA} {nm : Option Str}
structure KBinds (K : PySem.W.Frag) (fd : FuncData) (ps ks : List Str) (g : List Value → List Value → List Value) (gV : List V → List V → List V) : Prop where
  to : ∀ (s : Shared) (us ws : List Value), K.In s.heap → (g us ws).length = ps.length → BindsTo s fd ⟨us, ks.zip ws⟩ (ps.zip (g us ws))
  rel : ∀ {vs : List V} {us : List Value} {zs : List V} {ws : List Value}, Vals vs us → Vals zs ws → Vals (gV vs zs) (g us ws)
variable {g : List Value → List Value → List Value} {gV : List V → List V → List V}
end



structure FnScope (N P : List Str) (sc : Scope) : Prop where
  kind : sc.kind = .function
  co : sc.isCoroutine = false
  gen : sc.isGenerator = false
  nd : N.Nodup
  pre : N.take P.length = P
  par : ∀ x ∈ P, sc.names.lookup x = some .local ∨ sc.names.lookup x = some .cell
  nofree : ∀ y ∈ sc.names, y.2 ≠ .free

theorem bindL_out {kindOf : Str → Option NameKind} {x : Str} : ∀ {binds : List (Str × Value)} {m : Str → Option Value}, (∀ v, (x, v) ∉ binds) → bindL kindOf binds m x = m x
  | [], _, _ => rfl
  | (n, v) :: r, m, h => by
    unfold bindL
    rw [bindL_out fun w hw => h w (List.mem_cons_of_mem _ hw)]
    split
    · have : x ≠ n := by rintro rfl; exact h v List.mem_cons_self
      simp [this]
    · rfl
theorem bindC_out {kindOf : Str → Option NameKind} {x : Str} : ∀ {binds : List (Str × Value)} {m : Str → Option Value}, (∀ v, (x, v) ∉ binds) → bindC kindOf binds m x = m x
  | [], _, _ => rfl
  | (n, v) :: r, m, h => by
    unfold bindC
    rw [bindC_out fun w hw => h w (List.mem_cons_of_mem _ hw)]
    split
    · rfl
    · have : x ≠ n := by rintro rfl; exact h v List.mem_cons_self
      simp [this]
theorem bindL_get {kindOf : Str → Option NameKind} {x : Str} {v : Value} : ∀ {P : List Str} {vs : List Value} {i : Nat} {m : Str → Option Value}, P.Nodup → P[i]? = some x → vs[i]? = some v → kindOf x = some .local →
    bindL kindOf (P.zip vs) m x = some v
  | [], _, _, _, _, h, _, _ => by simp at h
  | _ :: _, [], _, _, _, _, h, _ => by simp at h
  | p :: P, w :: vs, 0, m, nd, h1, h2, hk => by
    simp at h1 h2; subst h1; subst h2
    show bindL kindOf ((p, w) :: P.zip vs) m p = _
    unfold bindL
    rw [bindL_out fun v hv => (List.nodup_cons.mp nd).1 (List.of_mem_zip hv).1, if_pos hk]
    simp
  | p :: P, w :: vs, i + 1, m, nd, h1, h2, hk => by
    show bindL kindOf ((p, w) :: P.zip vs) m x = _
    unfold bindL
    exact bindL_get (i := i) (List.nodup_cons.mp nd).2 (by simpa using h1) (by simpa using h2) hk
theorem bindC_get {kindOf : Str → Option NameKind} {x : Str} {v : Value} : ∀ {P : List Str} {vs : List Value} {i : Nat} {m : Str → Option Value}, P.Nodup → P[i]? = some x → vs[i]? = some v → kindOf x ≠ some .local →
    bindC kindOf (P.zip vs) m x = some v
  | [], _, _, _, _, h, _, _ => by simp at h
  | _ :: _, [], _, _, _, _, h, _ => by simp at h
  | p :: P, w :: vs, 0, m, nd, h1, h2, hk => by
    simp at h1 h2; subst h1; subst h2
    show bindC kindOf ((p, w) :: P.zip vs) m p = _
    unfold bindC
    rw [bindC_out fun v hv => (List.nodup_cons.mp nd).1 (List.of_mem_zip hv).1, if_neg hk]
    simp
  | p :: P, w :: vs, i + 1, m, nd, h1, h2, hk => by
    show bindC kindOf ((p, w) :: P.zip vs) m x = _
    unfold bindC
    exact bindC_get (i := i) (List.nodup_cons.mp nd).2 (by simpa using h1) (by simpa using h2) hk


def start (N : List Str) (vs : List V) : St := vs.map some ++ List.replicate (N.length - vs.length) none


def cxOf (CX : CXT) (P : Program) (w : World) (K : PySem.W.Frag) (mg : Str → Option Value) (base : Heap) (N : List Str) (qual : Str) (scope : Scope) (f : Addr) (cd : Value) (A : Around) (outer : List Env) (s : Shared) (H : Hp) (E : XK) : Cx where
  prog := P
  w := w
  K := K
  mg := mg
  base := base
  A := A.deeper (envOfC qual scope s.heap.objs.size f cd)
  N := N
  s₀ := s
  H₀ := H
  env := envOfC qual scope s.heap.objs.size f cd
  outer := outer
  stack := envOfC qual scope s.heap.objs.size f cd :: outer
  ex := []
  calm := true
  fn := fun _ => true
  pn := []
  xe := fun e s' => wpAny (model P w) (A.deeper (envOfC qual scope s.heap.objs.size f cd)) (leaving (envOfC qual scope s.heap.objs.size f cd) e) (fun _ s'' => CX outer H s E e s'') (fun e' s'' => CX outer H s E e' s'') s'

theorem cell_has {sc : Scope} {n : Nat} {x : Str} (h : sc.names.lookup x = some .cell) : ∃ c, (cellsFrom n sc.names []).lookup x = some c := by
  have q := PySem.W.cellsFrom_some sc.names n [] (.inl h)
  exact Option.isSome_iff_exists.mp q

theorem inv_start {CX : CXT} {P : Program} {w : World} {K : PySem.W.Frag} {mg : Str → Option Value} {base : Heap} {N ps : List Str} {qual : Str} {scope : Scope} {f : Addr} {cd : Value} {A : Around} {outer : List Env} {s s1 : Shared} {H : Hp} {E : XK} {us : List Value} {vs : List V}
    (S : FnScope N ps scope) (hd : A.handled = none) (e0 : Env0 P w K mg base A outer s H) (hl : vs.length = ps.length) (r : Vals vs us)
    (x : InCallC s s.heap.objs.size (bindL (envOfC qual scope s.heap.objs.size f cd).kindOf (ps.zip us) fun _ => none) (cellsFrom (s.heap.objs.size + 1) scope.names []) (bindC (envOfC qual scope s.heap.objs.size f cd).kindOf (ps.zip us) fun _ => none) s1) :
    Inv (cxOf CX P w K mg base N qual scope f cd A outer s H E) [] (start N vs) H s1 := by
  have hpl : ps.length ≤ N.length := by have := congrArg List.length S.pre; rw [List.length_take] at this; lia
  obtain ⟨h1, tk, rfl, hk⟩ := x.done
  have noA : ∀ b : Addr, b ∉ (cxOf CX P w K mg base N qual scope f cd A outer s H E).ex := fun b z => absurd (show b ∈ ([] : List Addr) from z) (by simp)
  refine ⟨⟨e0.mod, S.kind, rfl, rfl, Nat.le_refl _, fun y z c h1 h2 => ?_, fun y hy => ?_, fun y c _ h => ?_, fun _ => hd, Around.frames_deeper e0.frames, .inr ⟨rfl, rfl⟩, fun b z => absurd z (noA b), e0.bs, e0.bsz, fun b _ _ => noA b, fun b z => absurd z (noA b), e0.funs, e0.frf⟩,
    rfl, e0.bare, Un.kept hk, ⟨_, x.toInCall.ns, fun i y v h1 h2 h3 => ?_⟩, fun y c h => ⟨_, x.cell y c h⟩, e0.hok.fresh (Nat.le_refl _), fun y c h => ?_, fun p hp => absurd (show p ∈ ([] : List (Addr × Obj)) from hp) (by simp), e0.hok.kept hk, ?_⟩
  · exact name_of_addr x.apart (PySem.mem_of_lookup h1) (PySem.mem_of_lookup h2)
  · have hy : scope.names.lookup y = some .cell ∨ scope.names.lookup y = some .free := hy
    rcases hy with hy | hy
    · exact cell_has hy
    · exact absurd rfl (S.nofree _ (PySem.mem_of_lookup hy))
  · exact Nat.le_of_lt (x.above y c (PySem.mem_of_lookup h))
  · have hi : i < vs.length := by
      unfold start at h2
      by_cases hi : i < vs.length
      · exact hi
      · rw [List.getElem?_append_right (by simpa using hi)] at h2
        rw [List.getElem?_replicate] at h2
        split at h2 <;> cases h2
    have ha : vs[i]? = some v := by
      unfold start at h2
      rw [List.getElem?_append_left (by simpa using hi), List.getElem?_map] at h2
      cases e : vs[i]? with
      | none => rw [e] at h2; cases h2
      | some a => rw [e] at h2; cases h2; rfl
    obtain ⟨u, hu, rv⟩ := r.get ha
    have hp : ps[i]? = some y := by
      rw [← S.pre, List.getElem?_take_of_lt (by lia)]; exact h1
    have ndP : ps.Nodup := by rw [← S.pre]; exact S.nd.sublist (List.take_sublist _ _)
    refine ⟨u, rv, ?_⟩
    rcases S.par y (List.mem_of_getElem? hp) with k | k
    · exact .inl ⟨k, bindL_get ndP hp hu k⟩
    · obtain ⟨c, e⟩ := cell_has (n := s.heap.objs.size + 1) k
      refine .inr ⟨.inl k, c, e, ?_⟩
      have q := x.cell y c e
      rw [bindC_get ndP hp hu (by show scope.names.lookup y ≠ _; rw [k]; decide)] at q
      exact q
  · exact e0.hok.fresh (Nat.le_of_lt (x.above y c (PySem.mem_of_lookup h)))
  · unfold start
    show _ = N.length
    rw [List.length_append, List.length_map, List.length_replicate]
    lia


theorem fn_of {CX : CXT} {P : Program} {w : World} {K : PySem.W.Frag} {mg : Str → Option Value} {base : Heap} {k : Nat} {f : Addr} {name qual : Str} {params : Arguments} {body : List Stmt} {scope : Scope} {dV kV doc pm cdv ct oc : Value} {an od : Option Addr}
    {osl : Array (Option Value)} {N ps : List Str} {sp : Sp} (lk : K.lookup f = some ⟨oc, od, .func (PySem.W.fnOf name qual params body scope dV kV doc pm an cdv ct), osl⟩) (hcd : PySem.W.codeIn K cdv qual = true) (S : FnScope N ps scope)
    (len : ∀ vs H Q E, sp vs H Q E → vs.length = ps.length)
    (hbody : ∀ (A : Around) (outer : List Env) (s : Shared) (H : Hp) (vs : List V) (Q : VK) (E : XK), Room k (A.deeper (envOfC qual scope s.heap.objs.size f cdv)) → sp vs H Q E →
      ∃ t, PSs (cxOf CX P w K mg base N qual scope f cdv A outer s H E) body t ∧ t { nx := fun _ H' => Q .non H', rt := Q } (start N vs) H) :
    FnOk P w K mg base CX (k + 1) f (PySem.W.fnOf name qual params body scope dV kV doc pm an cdv ct) ps sp := by
  refine ⟨len, fun A outer s H args us vs Q E hr e0 hb r hsp => ?_⟩
  have hl := len _ _ _ _ hsp
  have KX : K.In s.heap := e0.mod.kin.keeps fun b o e => (e0.bs b o e).1
  have lim : s.heap.NoLimit := e0.mod.nolimit.keeps fun b o e => (e0.bs b o e).1
  have hkind : ∀ y ∈ ps.zip us, scope.names.lookup y.1 = some .local ∨ (scope.names.lookup y.1 = some .cell ∧ ((cellsFrom (s.heap.objs.size + 1) scope.names []).lookup y.1).isSome = true) := fun ⟨n, v⟩ hy => by
    rcases S.par n (List.of_mem_zip hy).1 with q | q
    · exact .inl q
    · exact .inr ⟨q, PySem.W.cellsFrom_some _ _ _ (.inl q)⟩
  refine codeAny_call_function hr.depth (KX _ _ lk) rfl S.co S.gen rfl (PySem.W.codeRec_of KX hcd) (hb _ _ _ _ ?_)
  refine wpAny_newFunctionEnv_cells S.kind hkind fun env he s1 x => ?_
  subst he
  refine ⟨lim.keeps x.toInCall.keep, codeAny_func ?_⟩
  obtain ⟨t, ht, hq⟩ := hbody A outer s H vs Q E (hr.deeper _) hsp
  have I : Inv (cxOf CX P w K mg base N qual scope f cdv A outer s H E) [] (start N vs) H s1 := inv_start S hr.hd e0 hl r x
  refine wpAny_mono (ht [] s1 (start N vs) H _ I hq) (fun fl s' hs => ?_) fun e s' hs => hs
  have fin : ∀ {σ' : St} {H' : Hp} {v : V} {u : Value}, Inv (cxOf CX P w K mg base N qual scope f cdv A outer s H E) [] σ' H' s' → RelV v u → Q v H' → CE outer P w H s Q u s' :=
    fun {σ' H' v u} J rv q => ⟨v, H', J.os, J.bare, J.base, J.hok, rv, q⟩
  cases fl with
  | ret u =>
    obtain ⟨v, σ', H', J, rv, q⟩ := hs
    exact fin J rv q
  | next =>
    obtain ⟨σ', H', J, q⟩ := hs
    exact fin (v := V.non) (u := Value.none) J rfl q
  | brk =>
    obtain ⟨_, _, _, q⟩ := hs
    exact False.elim q
  | cont =>
    obtain ⟨_, _, _, q⟩ := hs
    exact False.elim q
end L2

namespace L2
open PySem PySem.Spec PyProof.Rows
section
variable {X : Cx} {x : Str} {p pos : Pos} {e : Expr} {es : List Expr} {t : TA} {id T : String} {r : List V → Hp → VK → Prop}

def tCB (r : List V → Hp → VK → Prop) (t : TA) : TE := fun σ H Q => t σ H fun vs H1 => r vs H1 Q

theorem pe_callB (hc : CallR X (.builtin id) r) (hg : Gl X x) (hm : X.mg x = none) (hv : bootBuiltins x = some (.builtin id)) (ha : PA X (e :: es) t) (hn : x ≠ "__name__" := by decide) (hdb : (x == ("__debug__" : Str)) = false := by decide)
    (he : starEach (e :: es) X.env = (false, eval e X.env) :: starEach es X.env := by rfl) (hpl : (backTo pos (starEach es X.env)).any (·.1) = false := by rfl) : PE X (.Call (.Name x p) (e :: es) [] pos) (tCB r t) := by
  intro pins s σ H Q I h
  refine wpAny_Call_Name_kw (ld_blt I hg hm hv ?_ hn hdb)
  exact PyProof.Rows.callWith_builtin1 (thn (ha pos pins s σ H _ I h) fun us s1 ⟨vs, H1, I1, r1, q1⟩ => hc pins s1 σ H1 vs us Q I1 r1 q1) he hpl

theorem pe_callTy (hc : CallR X (.type T) r) (hg : Gl X x) (hm : X.mg x = none) (hv : bootBuiltins x = some (.type T)) (ha : PA X (e :: es) t) (hn : x ≠ "__name__" := by decide) (hdb : (x == ("__debug__" : Str)) = false := by decide)
    (he : starEach (e :: es) X.env = (false, eval e X.env) :: starEach es X.env := by rfl) (hpl : (backTo pos (starEach es X.env)).any (·.1) = false := by rfl) : PE X (.Call (.Name x p) (e :: es) [] pos) (tCB r t) := by
  intro pins s σ H Q I h
  refine wpAny_Call_Name_kw (ld_blt I hg hm hv ?_ hn hdb)
  exact PyProof.Rows.callWith_type1 (thn (ha pos pins s σ H _ I h) fun us s1 ⟨vs, H1, I1, r1, q1⟩ => hc pins s1 σ H1 vs us Q I1 r1 q1) he hpl

end
end L2

namespace HT
open PySem PyProof.Rows


def lexLt : List Int → List Int → Bool
  | [], [] => false
  | [], _ :: _ => true
  | _ :: _, [] => false
  | x :: xs, y :: ys => if x = y then lexLt xs ys else decide (x < y)
theorem lexLt_cons (x y : Int) (xs ys : List Int) : lexLt (x :: xs) (y :: ys) = if x = y then lexLt xs ys else decide (x < y) := rfl
theorem eqAt_int (A : Around) (s : Shared) (a : Int) (t : Tok) (c : Int) (u : Tok) : ∃ e, SeqAt.EqAt A s (.int a t) (.int c u) e ∧ (e = true ↔ a = c) :=
  ⟨(a == c), SeqAt.EqAt.int_int a t c u, by simp⟩
theorem rcLt_int (A : Around) (s : Shared) (a : Int) (t : Tok) (c : Int) (u : Tok) (prog : Program) (w : World) (E : Value → Shared → Prop) (Q : Value → Shared → Prop) (h : Q (.bool (decide (a < c))) s) :
    wpAny (model prog w) A (richCompare .Lt (.int a t) (.int c u)) Q E s :=
  (PyProof.Rows.lt_int h : wpAny (model prog w) A (compareOp .Lt (.int a t) (.int c u)) Q E s)

section
open PySem.SeqAt
open PySem.AutoSeq1 (wpAny_loadPart')
open PySem.MeetsSeq PySem.MeetsSeq2 PySem.MeetsSeq3

end

section
variable {prog : Program} {w : World} {A : Around} {E : Value → Shared → Prop} {s : Shared}

def sIx (n d : Nat) : Option Int → Nat
  | none => d
  | some v => if v < 0 then (v + (n : Int)).toNat else min v.toNat n
theorem sIx_none (n d : Nat) : sIx n d none = d := rfl
theorem sIx_nat (n d k : Nat) : sIx n d (some (k : Int)) = min k n := by
  show (if (k : Int) < 0 then ((k : Int) + (n : Int)).toNat else min (k : Int).toNat n) = min k n
  rw [if_neg (by lia), Int.toNat_natCast]
end
end HT

namespace L2
open PySem PySem.Spec PyProof.Rows


abbrev TO := St → Hp → (Option Int → Hp → Prop) → Prop

def PO (X : Cx) (e : Option Expr) (t : TO) : Prop :=
  ∀ (pins : List (Addr × Obj)) (s : Shared) (σ : St) (H : Hp) (Q : Option Int → Hp → Prop), Inv X pins σ H s → t σ H Q →
    wpAny (model X.prog X.w) X.A (evalPart e X.env) (fun u s' => ∃ o H', Inv X pins σ H' s' ∧ IsPart u o ∧ Q o H') X.xe s
def tNoPart : TO := fun _ H Q => Q none H
inductive tPart_ (Q : Option Int → Hp → Prop) (x : V) (H1 : Hp) : Prop where
  | mk (i : _) (h0_ : x = .int i) (h1_ : Q (some i) H1) : tPart_ Q x H1
def tPart (t : TE) : TO := fun σ H Q => t σ H fun x H1 => tPart_ Q x H1

theorem intsAre_of {ns : List Int} : ∀ {us : List Value}, Vals (ns.map V.int) us → IntsAre us ns := by
  induction ns with
  | nil => intro us r; rw [List.map_nil] at r; cases r; exact .nil
  | cons n ns ih =>
    intro us r
    rw [List.map_cons] at r
    cases r with
    | cons r1 r2 =>
      obtain ⟨t, e⟩ := r1
      subst e
      exact .cons n t (ih r2)

section
variable {X : Cx} {e : Expr} {te : TE} {lo hi : Option Expr} {tl th : TO} {pos p2 : Pos}

theorem po_none : PO X none tNoPart := by
  intro pins s σ H Q I h
  rw [evalPart_none]
  exact wpAny_pure ⟨none, H, I, .none, h⟩
theorem po_some (h : PE X e te) : PO X (some e) (tPart te) := by
  intro pins s σ H Q I hw
  rw [evalPart_some]
  refine thn (h pins s σ H _ I hw) fun u s1 ⟨x, H1, I1, r1, q1⟩ => ?_
  obtain ⟨i, rfl, q⟩ := q1
  obtain ⟨t, rfl⟩ := r1
  exact ⟨some i, H1, I1, .int i t, q⟩


def SlR (X : Cx) (r : V → Option Int → Option Int → Hp → VK → Prop) : Prop :=
  ∀ (pins : List (Addr × Obj)) (s : Shared) (σ : St) (H : Hp) (x : V) (v vl vu : Value) (lo hi : Option Int) (sl : Addr) (Q : VK), Inv X pins σ H s → RelV x v → s.heap.IsSliceOf sl vl vu .none → IsPart vl lo → IsPart vu hi → r x lo hi H Q →
    ∃ T id, typeLookup (.type T) "__getitem__" = pure (some (.builtin id)) ∧ s.TypeIs v T ∧ wpAny (model X.prog X.w) X.A (getItem v (.ref sl)) (EP X pins σ Q) X.xe s
def tSl (r : V → Option Int → Option Int → Hp → VK → Prop) (te : TE) (tl th : TO) : TE := fun σ H Q => te σ H fun x H1 => tl σ H1 fun l H2 => th σ H2 fun u H3 => r x l u H3 Q

theorem pe_slice {r : V → Option Int → Option Int → Hp → VK → Prop} (hr : SlR X r) (he : PE X e te) (hl : PO X lo tl) (hu : PO X hi th) : PE X (.Subscript e (.Slice lo hi none p2) pos) (tSl r te tl th) := by
  intro pins s σ H Q I h
  refine Subscript_ (thn (he pins s σ H _ I h) fun v s1 ⟨x, H1, I1, r1, q1⟩ => ?_)
  refine wpAny_Slice (thn (hl pins s1 σ H1 _ I1 q1) fun vl s2 ⟨l, H2, I2, pl, q2⟩ => thn (hu pins s2 σ H2 _ I2 q2) fun vu s3 ⟨u, H3, I3, pu, q3⟩ => ?_)
  rw [evalPart_none]
  refine wpAny_pure ?_
  have I4 : Inv X pins σ H3 { s3 with heap := s3.heap.push { cls := .type "slice", data := .fields #[vl, vu, .none] } } := I3.kept (t' := s3.toks) fun b ob q => Heap.get?_push_of_some _ q
  obtain ⟨T, id, hT, ht, hg⟩ := hr pins { s3 with heap := s3.heap.push { cls := .type "slice", data := .fields #[vl, vu, .none] } } σ H3 x v vl vu l u s3.heap.objs.size Q I4 r1 (Heap.IsSliceOf.new ..) pl pu q3
  show wpAny (model X.prog X.w) X.A (subscriptTail e (.Slice lo hi none p2) v (.ref s3.heap.objs.size)) (EP X pins σ Q) X.xe { s3 with heap := s3.heap.push { cls := .type "slice", data := .fields #[vl, vu, .none] } }
  exact tail_any (ops := [.ref s3.heap.objs.size, v]) ht hT hg (by with_unfolding_all rfl)


def cutV (xs : List V) (lo hi : Option Int) : List V := (xs.drop (HT.sIx xs.length 0 lo)).take (HT.sIx xs.length xs.length hi - HT.sIx xs.length 0 lo)
theorem cutV_length (xs : List V) (lo hi : Option Int) : (cutV xs lo hi).length ≤ xs.length := by
  unfold cutV
  rw [List.length_take, List.length_drop]
  omega

end
end L2

namespace L2
open PySem PySem.Spec PyProof.Rows



def ixN (n : Nat) (i : Int) : Option Nat := if 0 ≤ i then (if i < n then some i.toNat else none) else if -(n : Int) ≤ i then some (i + n).toNat else none
def atI {α : Type} (xs : List α) (i : Int) : Option α := (ixN xs.length i).bind fun j => xs[j]?
theorem ixN_seq {n : Nat} {i : Int} {j : Nat} (h : ixN n i = some j) : seqIndex? i n = some j ∧ j < n ∧ -(n : Int) ≤ i ∧ i < n := by
  unfold ixN at h
  by_cases h0 : 0 ≤ i
  · rw [if_pos h0] at h
    by_cases h1 : i < n
    · rw [if_pos h1] at h
      have e : i.toNat = j := Option.some.inj h
      exact ⟨by rw [seqIndex_of h0 h1, e], by lia, by lia, h1⟩
    · rw [if_neg h1] at h; cases h
  · rw [if_neg h0] at h
    by_cases h1 : -(n : Int) ≤ i
    · rw [if_pos h1] at h
      have e : (i + n).toNat = j := Option.some.inj h
      exact ⟨by rw [seqIndex_neg (by lia) h1, e], by lia, h1, by lia⟩
    · rw [if_neg h1] at h; cases h
theorem atI_get {α : Type} {xs : List α} {i : Int} {v : α} (h : atI xs i = some v) : ∃ j, seqIndex? i xs.length = some j ∧ xs[j]? = some v ∧ j < xs.length ∧ -(xs.length : Int) ≤ i ∧ i < xs.length := by
  unfold atI at h
  cases e : ixN xs.length i with
  | none => rw [e] at h; cases h
  | some j =>
    rw [e] at h
    obtain ⟨h1, h2, h3, h4⟩ := ixN_seq e
    exact ⟨j, h1, h, h2, h3, h4⟩
theorem atI_nat {α : Type} {xs : List α} {j : Nat} {v : α} (h : xs[j]? = some v) : atI xs (j : Int) = some v := by
  have hj : j < xs.length := (List.getElem?_eq_some_iff.mp h).1
  have e : ixN xs.length (j : Int) = some j := by
    unfold ixN
    rw [if_pos (by lia), if_pos (by lia)]; simp
  unfold atI; rw [e]; exact h
def PlainIx (b : Expr) : Prop := ∀ o i, subscripted b false o i = operate [o, i] (getItem o i)

def IxR (X : Cx) (r : R2) : Prop :=
  ∀ (value slice : Expr) (pins : List (Addr × Obj)) (s : Shared) (σ : St) (H : Hp) (x y : V) (v u : Value) (Q : VK), Inv X pins σ H s → RelV x v → RelV y u → r x y H Q →
    subscripted slice false v u = operate [v, u] (getItem v u) → wpAny (model X.prog X.w) X.A (subscriptTail value slice v u) (EP X pins σ Q) X.xe s

def MtR (X : Cx) (id : String) (r : V → List V → Hp → VK → Prop) : Prop :=
  ∀ (pins : List (Addr × Obj)) (s : Shared) (σ : St) (H : Hp) (x : V) (xs : List V) (v : Value) (us : List Value) (Q : VK), Inv X pins σ H s → RelV x v → Vals xs us → r x xs H Q →
    wpAny (model X.prog X.w) X.A (call (.builtin id) (v :: us)) (EP X pins σ Q) X.xe s
section
variable {X : Cx} {a b : Expr} {ta tb : TE} {pos : Pos}
theorem pe_ix {r : R2} (hr : IxR X r) (ha : PE X a ta) (hb : PE X b tb) (hs : PlainIx b) : PE X (.Subscript a b pos) (tOp r ta tb) := by
  intro pins s σ H Q I h
  exact Subscript_ (binT ha hb I h fun v u s2 x y H2 I2 rx ry q => hr a b pins s2 σ H2 x y v u Q I2 rx ry q (hs _ _))

inductive rIxL_ (K : PySem.W.Frag) (x : V) (y : V) (H : Hp) (Q : VK) : Prop where
  | mk (p : _) (xs : _) (i : _) (v : _) (h0_ : x = .ref p) (h1_ : y = .int i) (h2_ : SqL K H p xs) (h3_ : atI xs i = some v) (h4_ : Q v H) : rIxL_ K x y H Q
def rIxL (K : PySem.W.Frag) : R2 := fun x y H Q => rIxL_ K x y H Q
theorem ix_list : IxR X (rIxL X.K) := by
  intro value slice pins s σ H x y v u Q I rx ry h hs
  obtain ⟨p, xs, i, z, rfl, rfl, hq, he, q⟩ := h
  cases rx
  obtain ⟨t, rfl⟩ := ry
  obtain ⟨its, r, pl, hz⟩ := I.list hq
  obtain ⟨j, h1, h2, h3, h4, h5⟩ := atI_get he
  obtain ⟨w, ew, rw'⟩ := r.get h2
  have hl := r.length
  have hn := line63
  have fin : EP X pins σ Q w s := ⟨z, H, I, rw', q⟩
  by_cases h0 : 0 ≤ i
  · have hj : i.toNat = j := by
      rw [seqIndex_of h0 h5] at h1
      exact Option.some.inj h1
    exact item_listR pl.isList h0 (by lia) (by rw [hj]; simpa using ew) fin hs
  · have hj : (i + (its.toArray.size : Int)).toNat = j := by
      rw [seqIndex_neg (by lia) h4] at h1
      rw [List.size_toArray, ← hl]
      exact Option.some.inj h1
    exact subscriptTail_builtinR (x := w) pl.isList.typeIs slot_list_getitem.lookup
      (wpAny_getItem_list_neg (Q := fun r s' => r = w ∧ EP X pins σ Q r s') pl.isList (by lia) (by rw [List.size_toArray] <;> lia) (by lia) (by rw [hj]; simpa using ew) ⟨rfl, fin⟩) hs
theorem Inv.lst {pins : List (Addr × Obj)} {σ : St} {H : Hp} {s : Shared} {p : Addr} {xs : List V} (I : Inv X pins σ H s) (h : H p = some (.lst xs)) :
    ∃ (its : List Value) (n : Nat), Vals xs its ∧ s.heap.get? p = some { cls := .type "list", data := .seq its.toArray n } ∧ xs.length ≤ sizeLine := by
  obtain ⟨z, its, n, r, e⟩ := I.hok p _ h
  exact ⟨its, n, r, e, z⟩

theorem slice_bounds (lo hi : Option Int) (n : Nat) : (sliceBounds lo hi none n).1 = ((HT.sIx n 0 lo : Nat) : Int) ∧ (sliceBounds lo hi none n).2.1 = ((HT.sIx n n hi : Nat) : Int) ∧ (sliceBounds lo hi none n).2.2 = 1 := by
  refine ⟨?_, ?_, rfl⟩
  · cases lo with
    | none => simp [sliceBounds, HT.sIx]
    | some i =>
      simp only [sliceBounds, HT.sIx, Option.getD_none, show (1 : Int) > 0 by decide, if_true]
      by_cases h : i < 0
      · simp only [h, if_true] <;> lia
      · simp only [h, if_false] <;> lia
  · cases hi with
    | none => simp [sliceBounds, HT.sIx]
    | some i =>
      simp only [sliceBounds, HT.sIx, Option.getD_none, show (1 : Int) > 0 by decide, if_true]
      by_cases h : i < 0
      · simp only [h, if_true] <;> lia
      · simp only [h, if_false] <;> lia
theorem slicePick_cut (its : List Value) (lo hi : Option Int) : slicePick its.toArray lo hi none = ((its.drop (HT.sIx its.length 0 lo)).take (HT.sIx its.length its.length hi - HT.sIx its.length 0 lo)).toArray := by
  obtain ⟨h1, h2, h3⟩ := slice_bounds lo hi its.toArray.size
  unfold slicePick
  rw [h1, h2, h3]
  simp only [sliceRange_one, pick_run, List.size_toArray] <;> rfl

inductive rSlL_ (K : PySem.W.Frag) (x : V) (lo : Option Int) (hi : Option Int) (H : Hp) (Q : VK) : Prop where
  | mk (a : _) (xs : _) (h0_ : x = .ref a) (h1_ : SqL K H a xs) (h2_ : ∀ p, H p = none → Q (.ref p) (upd H p (.lst (cutV xs lo hi)))) : rSlL_ K x lo hi H Q
def rSlL (K : PySem.W.Frag) : V → Option Int → Option Int → Hp → VK → Prop := fun x lo hi H Q => rSlL_ K x lo hi H Q
theorem sl_list : SlR X (rSlL X.K) := by
  intro pins s σ H x v vl vu lo hi sl Q I rx hs pl pu h
  obtain ⟨a, xs, rfl, hx, q⟩ := h
  cases rx
  obtain ⟨its, r, ht, hz⟩ := I.list hx
  have hlen := r.length
  refine ⟨"list", _, slot_list_getitem.lookup, ht.isList.typeIs, ?_⟩
  refine wpAny_getItem_list_slice ht.isList hs pl pu .none (by simp) ?_ (by rw [List.size_toArray] <;> lia)
  rw [slicePick_cut, ← hlen]
  refine ⟨.ref s.heap.objs.size, _, I.laid (t' := s.toks) (o := .lst (cutV xs lo hi)) (fun b ob q => Heap.get?_push_of_some _ q) (Nat.le_refl _) ?_, rfl, q _ (I.hok.fresh (Nat.le_refl _))⟩
  exact ⟨Nat.le_trans (cutV_length xs lo hi) hz, _, 0, (r.drop (HT.sIx xs.length 0 lo)).take (HT.sIx xs.length xs.length hi - HT.sIx xs.length 0 lo), Heap.get?_push_size _ rfl⟩


def flatV : V → Bool
  | .non => true
  | .bl _ => true
  | .int _ => true
  | .str _ => true
  | _ => false

def eqV : V → V → Bool
  | .non, .non => true
  | .bl a, .bl b => a == b
  | .bl a, .int b => (if a then 1 else 0) == b
  | .int a, .bl b => a == (if b then 1 else 0)
  | .int a, .int b => a == b
  | .str a, .str b => a == b
  | _, _ => false
theorem eqAt_V {A : Around} {s : Shared} {y x : V} {u v : Value} (ry : RelV y u) (rx : RelV x v) (fy : flatV y = true) (fx : flatV x = true) : SeqAt.EqAt A s u v (eqV y x) := by
  cases y with
  | non =>
    cases ry
    cases x with
    | non => cases rx; exact SeqAt.EqAt.same _
    | bl b => cases rx; exact SeqAt.EqAt.none_bool b
    | int b => obtain ⟨t, rfl⟩ := rx; exact SeqAt.EqAt.none_int b t
    | str b => obtain ⟨t, rfl⟩ := rx; exact SeqAt.EqAt.none_str b t
    | _ => exact absurd (show false = true from fx) Bool.false_ne_true
  | bl a =>
    cases ry
    cases x with
    | non => cases rx; exact SeqAt.EqAt.bool_none a
    | bl b => cases rx; exact SeqAt.EqAt.bool_bool a b
    | int b => obtain ⟨t, rfl⟩ := rx; exact SeqAt.EqAt.bool_int a b t
    | str b => obtain ⟨t, rfl⟩ := rx; exact SeqAt.EqAt.bool_str a b t
    | _ => exact absurd (show false = true from fx) Bool.false_ne_true
  | int a =>
    obtain ⟨t', rfl⟩ := ry
    cases x with
    | non => cases rx; exact SeqAt.EqAt.int_none a t'
    | bl b => cases rx; exact SeqAt.EqAt.int_bool a t' b
    | int b => obtain ⟨t, rfl⟩ := rx; exact SeqAt.EqAt.int_int a t' b t
    | str b => obtain ⟨t, rfl⟩ := rx; exact SeqAt.EqAt.int_str a t' b t
    | _ => exact absurd (show false = true from fx) Bool.false_ne_true
  | str a =>
    obtain ⟨t', rfl⟩ := ry
    cases x with
    | non => cases rx; exact SeqAt.EqAt.str_none a t'
    | bl b => cases rx; exact SeqAt.EqAt.str_bool a t' b
    | int b => obtain ⟨t, rfl⟩ := rx; exact SeqAt.EqAt.str_int a t' b t
    | str b => obtain ⟨t, rfl⟩ := rx; exact SeqAt.EqAt.str_str a t' b t
    | _ => exact absurd (show false = true from fx) Bool.false_ne_true
  | _ => exact absurd (show false = true from fy) Bool.false_ne_true

def eqU (x : V) (u : Value) : Bool := match u with
  | .none => eqV .non x
  | .bool b => eqV (.bl b) x
  | .int i _ => eqV (.int i) x
  | .str z _ => eqV (.str z) x
  | _ => false
theorem eqU_of {x y : V} {u : Value} (r : RelV y u) (f : flatV y = true) : eqU x u = eqV y x := by
  cases y with
  | non => cases r; rfl
  | bl b => cases r; rfl
  | int i => obtain ⟨t, rfl⟩ := r; rfl
  | str z => obtain ⟨t, rfl⟩ := r; rfl
  | _ => exact absurd (show false = true from f) Bool.false_ne_true
theorem any_eqU {x : V} : ∀ {xs : List V} {us : List Value}, Vals xs us → xs.all flatV = true → us.any (eqU x) = xs.any fun y => eqV y x
  | _, _, .nil, _ => rfl
  | y :: xs, u :: us, .cons r t, f => by
    rw [List.all_cons, Bool.and_eq_true] at f
    rw [List.any_cons, List.any_cons, eqU_of r f.1, any_eqU t f.2]
theorem mem_eqAt {A : Around} {s : Shared} {x : V} {v : Value} (rx : RelV x v) (fx : flatV x = true) : ∀ {xs : List V} {us : List Value}, Vals xs us → xs.all flatV = true → ∀ u ∈ us, SeqAt.EqAt A s u v (eqU x u)
  | _, _, .nil, _ => fun u hu => by cases hu
  | y :: xs, u :: us, .cons r t, f => fun u' hu => by
    rw [List.all_cons, Bool.and_eq_true] at f
    rcases List.mem_cons.mp hu with rfl | hu
    · rw [eqU_of r f.1]; exact eqAt_V r rx f.1 fx
    · exact mem_eqAt rx fx t f.2 u' hu
def inV (x : V) (xs : List V) : Bool := xs.any fun y => eqV y x

inductive rIn_ (K : PySem.W.Frag) (neg : Bool) (x : V) (y : V) (H : Hp) (Q : VK) : Prop where
  | mk (p : _) (xs : _) (h0_ : y = .ref p) (h1_ : (SqL K H p xs ∨ SqT K H p xs)) (h2_ : flatV x = true) (h3_ : xs.all flatV = true) (h4_ : Q (.bl (if neg then !inV x xs else inV x xs)) H) : rIn_ K neg x y H Q
def rIn (K : PySem.W.Frag) (neg : Bool) : R2 := fun x y H Q => rIn_ K neg x y H Q
theorem op_in_seq : OpR X (compareOp .In) (rIn X.K false) := by
  intro pins s σ H x y v u Q I rx ry h
  obtain ⟨p, xs, rfl, hq, fx, fs, q⟩ := h
  cases ry
  rcases hq with hq | hq
  · obtain ⟨its, r, pl, hz⟩ := I.list hq
    refine SeqAt.in_listAt (eqU x) pl.isList (fun w hw => mem_eqAt rx fx r fs w (by simpa using hw)) ⟨.bl _, H, I, rfl, ?_⟩
    rw [show its.toArray.any (eqU x) = its.any (eqU x) by simp, any_eqU r fs]
    exact q
  · obtain ⟨its, r, pl, hz⟩ := I.tuple hq
    refine SeqAt.in_tupleAt (eqU x) pl (fun w hw => mem_eqAt rx fx r fs w (by simpa using hw)) ⟨.bl _, H, I, rfl, ?_⟩
    rw [show its.toArray.any (eqU x) = its.any (eqU x) by simp, any_eqU r fs]
    exact q
theorem call_len_seq : CallR X (.builtin "len") (fun xs H Q => ∃ p ys, xs = [.ref p] ∧ (SqL X.K H p ys ∨ SqT X.K H p ys) ∧ Q (.int ys.length) H) := by
  intro pins s σ H xs us Q I r h
  obtain ⟨p, ys, rfl, hq, q⟩ := h
  obtain ⟨u, rfl, rx⟩ := vals1 r
  cases rx
  have hn := line63
  rcases hq with hq | hq
  · obtain ⟨its, r', pl, hz⟩ := I.list hq
    have hlen := r'.length
    exact Calls.call_len_list pl.isList (by simp only [List.size_toArray] <;> lia) ⟨.int ys.length, H, I.tok _, ⟨s.toks + 1, by rw [List.size_toArray, hlen]⟩, q⟩
  · obtain ⟨its, r', pl, hz⟩ := I.tuple hq
    have hlen := r'.length
    exact len_tuple pl (by simp only [List.size_toArray] <;> lia) ⟨.int ys.length, H, I.tok _, ⟨s.toks + 1, by rw [List.size_toArray, hlen]⟩, q⟩
theorem call_list_of : CallR X (.type "list") (fun xs H Q => ∃ p ys, xs = [.ref p] ∧ (SqL X.K H p ys ∨ SqT X.K H p ys) ∧ ∀ l, H l = none → Q (.ref l) (upd H l (.lst ys))) := by
  intro pins s σ H xs us Q I r h
  obtain ⟨p, ys, rfl, hq, q⟩ := h
  obtain ⟨u, rfl, rx⟩ := vals1 r
  cases rx
  have fin : ∀ (its : List Value), Vals ys its → ys.length ≤ sizeLine → ∀ (h' : Heap) (c' : Nat), (∀ b o', s.heap.get? b = some o' → h'.get? b = some o') →
      h'.get? s.heap.objs.size = some { cls := .type "list", dict := none, data := .seq its.toArray c', slots := #[] } → EP X pins σ Q (.ref s.heap.objs.size) { s with heap := h' } := fun its r' hz h' c' kp e =>
    ⟨.ref s.heap.objs.size, _, I.laid (t' := s.toks) kp (Nat.le_refl _) (show ObjOk X.prog X.w _ h' _ (.lst ys) from ⟨hz, its, c', r', e⟩), rfl, q _ (I.hok.fresh (Nat.le_refl _))⟩
  rcases hq with hq | hq
  · obtain ⟨its, r', pl, hz⟩ := I.list hq
    have hlen := r'.length
    obtain ⟨o, ho, hc, n, hd⟩ := pl.isList
    exact call_list_seq p (.inl rfl) ho hc hd (fun h' c' kp e => fin its r' hz h' c' kp e) (by simp only [List.size_toArray] <;> lia)
  · obtain ⟨its, r', pl, hz⟩ := I.tuple hq
    have hlen := r'.length
    obtain ⟨o, ho, hc, n, hd⟩ := pl
    exact call_list_seq p (.inr rfl) ho hc hd (fun h' c' kp e => fin its r' hz h' c' kp e) (by simp only [List.size_toArray] <;> lia)
def tyV (K : PySem.W.Frag) (T : String) (x : V) (H : Hp) : Prop := match x with
  | .str _ => T = "str"
  | .int _ => T = "int"
  | .ref p => (T = "list" ∧ ∃ xs, SqL K H p xs) ∨ (T = "tuple" ∧ ∃ o, K.lookup p = some o ∧ o.cls = .type "tuple" ∧ o.dict = none) ∨
      (T = "dict" ∧ ((∃ kvs, H p = some (.dK kvs)) ∨ ∃ kvs, H p = some (.dT kvs))) ∨ (T = "set" ∧ ∃ S n, H p = some (.set S n))
  | _ => False
theorem tyV_is {pins : List (Addr × Obj)} {σ : St} {H : Hp} {s : Shared} {T : String} {x : V} {v : Value} (I : Inv X pins σ H s) (r : RelV x v) (ty : tyV X.K T x H) :
    s.TypeIs v T ∧ ∀ a, v = .ref a → ∃ ob, s.heap.get? a = some ob ∧ ob.dict = none := by
  cases x with
  | str z =>
    obtain ⟨t, rfl⟩ := r
    cases (show T = "str" from ty)
    exact ⟨typeIs_str s z t, fun _ e => nomatch e⟩
  | int i =>
    obtain ⟨t, rfl⟩ := r
    cases (show T = "int" from ty)
    exact ⟨typeIs_int s i t, fun _ e => nomatch e⟩
  | ref p =>
    cases r
    rcases ty with ⟨rfl, xs, hq⟩ | ⟨rfl, o, hk, hc, hd⟩ | ⟨rfl, hk⟩ | ⟨rfl, S, n, hk⟩
    · obtain ⟨its, _, pl, _⟩ := I.list hq
      refine ⟨pl.isList.typeIs, fun a e => ?_⟩
      cases e
      obtain ⟨o, n, e, c, hd, _⟩ := pl
      exact ⟨o, e, hd⟩
    · refine ⟨⟨o, I.kIn p o hk, hc⟩, fun a e => ?_⟩
      cases e
      exact ⟨o, I.kIn _ o hk, hd⟩
    · have z : ∃ o, s.heap.get? p = some o ∧ o.ExactDict := by
        rcases hk with ⟨kvs, hk⟩ | ⟨kvs, hk⟩
        · obtain ⟨_, _, _, _, o, _, _, e, ex, _⟩ := I.hok p _ hk
          exact ⟨o, e, ex⟩
        · obtain ⟨_, _, _, _, o, _, _, e, ex, _⟩ := I.hok p _ hk
          exact ⟨o, e, ex⟩
      obtain ⟨o, e, ex⟩ := z
      refine ⟨⟨o, e, ex.1⟩, fun a e2 => ?_⟩
      cases e2
      exact ⟨o, e, ex.2.1⟩
    · obtain ⟨o, _, _, _, e, ex, _⟩ := I.hok p _ hk
      refine ⟨⟨o, e, ex.1⟩, fun a e2 => ?_⟩
      cases e2
      exact ⟨o, e, ex.2.1⟩
  | _ => exact False.elim ty
inductive tBM_ (K : PySem.W.Frag) (T : String) (r : V → List V → Hp → VK → Prop) (t : TA) (σ : St) (Q : VK) (x : V) (H1 : Hp) : Prop where
  | mk  (h0_ : tyV K T x H1) (h1_ : t σ H1 fun xs H2 => r x xs H2 Q) : tBM_ K T r t σ Q x H1
def tBM (K : PySem.W.Frag) (T : String) (r : V → List V → Hp → VK → Prop) (to : TE) (t : TA) : TE := fun σ H Q => to σ H fun x H1 => tBM_ K T r t σ Q x H1
variable {o e : Expr} {es : List Expr} {to : TE} {t : TA} {name : Str} {apos cpos : Pos} {T id : String} {r : V → List V → Hp → VK → Prop}
theorem pe_bm (pa : PlainAttrs T) (slot : Slot T name id) (hty : typeOf (.builtin id) = pure (.type "method_descriptor")) (hm : MtR X id r) (ho : PE X o to) (ha : PA X (e :: es) t)
    (hbase : attributeBase o name X.env (eval o X.env) = eval o X.env := by rfl)
    (hfew : ((backTo cpos (starEach (e :: es) X.env)).all (fun x => !x.1) && (backToKw cpos (keywordEach [] X.env)).all (fun x => x.1.isSome)
      && decide ((e :: es).length + ([] : List Keyword).length + (if ([] : List Keyword).isEmpty then 0 else 1) < 30)) = true := by rfl)
    (hline : (apos.endLine == cpos.line) = true := by rfl) (hs : starEach (e :: es) X.env = (false, eval e X.env) :: starEach es X.env := by rfl) (hplain : (backTo cpos (starEach es X.env)).any (·.1) = false := by rfl) :
    PE X (.Call (.Attribute o name apos) (e :: es) [] cpos) (tBM X.K T r to t) := by
  intro pins s σ H Q I h
  refine wpAny_Call_method_late hbase hfew hline rfl (thn (ho pins s σ H _ I h) fun v s1 ⟨x, H1, I1, r1, ty, q1⟩ => ?_)
  obtain ⟨h1, h2⟩ := tyV_is I1 r1 ty
  refine ⟨T, id, pa, slot, hty, h1, h2, ?_⟩
  have hA := ha cpos pins s1 σ H1 _ I1 q1
  rw [hs] at hA ⊢
  refine Calls.callWith_builtin (by show (false || (backTo cpos (starEach es X.env)).any (·.1)) = false; rw [hplain] <;> rfl) (Calls.evalArgs_plain ?_)
  exact thn hA fun us s2 ⟨vs, H2, I2, r2, q2⟩ => hm pins s2 σ H2 x vs v us Q I2 r1 r2 q2

end
end L2

namespace L2
open PySem PySem.Spec PyProof.Rows

def MtM (X : Cx) (id : String) (r : V → List V → Hp → VK → Prop) : Prop :=
  ∀ (pins : List (Addr × Obj)) (s : Shared) (σ : St) (H : Hp) (x : V) (xs : List V) (v : Value) (us : List Value) (Q : VK), Inv X pins σ H s → RelV x v → Vals xs us → r x xs H Q →
    wpAny (model X.prog X.w) X.A (call (.builtin id) (v :: us)) (EP X pins σ Q) X.xe s


theorem Vals.one : ∀ {x : V} {us : List Value}, Vals [x] us → ∃ u, us = [u] ∧ RelV x u
  | _, _, .cons r .nil => ⟨_, rfl, r⟩
theorem Vals.zero : ∀ {us : List Value}, Vals [] us → us = []
  | _, .nil => rfl
theorem Vals.eraseIdx : ∀ {xs : List V} {us : List Value} (i : Nat), Vals xs us → Vals (xs.eraseIdx i) (us.eraseIdx i)
  | _, _, _, .nil => .nil
  | _, _, 0, .cons _ t => t
  | _, _, i + 1, .cons r t => .cons r (Vals.eraseIdx i t)
theorem Vals.reverse {xs : List V} {us : List Value} (h : Vals xs us) : Vals xs.reverse us.reverse := by
  induction h with
  | nil => exact .nil
  | cons r t ih => rw [List.reverse_cons, List.reverse_cons]; exact Vals.append ih (.cons r .nil)
section
variable {X : Cx} {pins : List (Addr × Obj)} {σ : St} {H : Hp} {s : Shared} {l b : Addr} {xs ys zs : List V}


theorem Inv.lset {its its' : List Value} {n : Nat} {f : Array Value → Array Value} {t' : Nat} (I : Inv X pins σ H s) (hH : H l = some (.lst xs))
    (e : s.heap.get? l = some { cls := .type "list", data := .seq its.toArray n }) (hf : f its.toArray = its'.toArray) (hv : Vals ys its') (hz : ys.length ≤ sizeLine) :
    Inv X pins σ (upd H l (.lst ys)) { s with heap := s.heap.update l (Obj.mapSeq f), toks := t' } := by
  have q := PySem.IsL.update e f
  rw [hf] at q
  refine I.write (x := l) (e := l) (by rw [hH]; exact trivial) (.inl rfl) (fun b' u hb hu => (Heap.get?_update_other s.heap (Obj.mapSeq f) (Ne.symm hb)).trans hu) ⟨_, q⟩ ?_
  exact ⟨hz, its', _, hv, q⟩
theorem Inv.lnew {its : List Value} {t' : Nat} (I : Inv X pins σ H s) (hv : Vals ys its) (hz : ys.length ≤ sizeLine) :
    Inv X pins σ (upd H s.heap.objs.size (.lst ys)) { s with heap := s.heap.push { cls := .type "list", data := .seq its.toArray }, toks := t' } :=
  I.laid (fun _ _ q => Heap.get?_push_of_some _ q) (Nat.le_refl _) ⟨hz, its, 0, hv, Heap.get?_push_size _ rfl⟩
theorem Inv.fresh (I : Inv X pins σ H s) : H s.heap.objs.size = none := I.hok.fresh (Nat.le_refl _)
theorem Inv.lstM (I : Inv X pins σ H s) (hH : H l = some (.lst xs)) : xs.length ≤ sizeLine ∧ ∃ (its : List Value) (n : Nat), Vals xs its ∧ xs.length = its.length ∧ s.heap.get? l = some { cls := .type "list", data := .seq its.toArray n } := by
  obtain ⟨z, its, n, r, e⟩ := I.hok l _ hH
  exact ⟨z, its, n, r, r.length, e⟩

theorem notLongL {n : Nat} (h : n ≤ sizeLine) : Builtin.List.listTooLong n = false := by
  unfold Builtin.List.listTooLong
  exact decide_eq_false (by lia)
end

section
variable {X : Cx}


inductive rAppend_ (x : V) (vs : List V) (H : Hp) (Q : VK) : Prop where
  | mk (l : _) (xs : _) (y : _) (h0_ : x = .ref l) (h1_ : vs = [y]) (h2_ : H l = some (.lst xs)) (h3_ : xs.length < sizeLine) (h4_ : Q .non (upd H l (.lst (xs ++ [y])))) : rAppend_ x vs H Q
def rAppend : V → List V → Hp → VK → Prop := fun x vs H Q => rAppend_ x vs H Q
theorem mt_append : MtM X "list.append" rAppend := by
  intro pins s σ H x vs v us Q I rx rv h
  obtain ⟨l, xs, y, rfl, rfl, hH, hz, q⟩ := h
  cases rx
  obtain ⟨u, rfl, ru⟩ := rv.one
  obtain ⟨z, its, n, r, hl, e⟩ := I.lstM hH
  refine call_meets F.slot_list_append ⟨_, e, rfl⟩ F.entry_list_append (F.args_list_append_2 _ _) (PySem.list_append l its.toArray n u (by rw [List.size_toArray]; lia)) ⟨e, ?_⟩
  refine ⟨.non, _, I.lset (its' := its ++ [u]) hH e (by simp) (r.append (.cons ru .nil)) ?_, rfl, q⟩
  rw [List.length_append, List.length_singleton]
  lia

inductive rExtend_ (x : V) (vs : List V) (H : Hp) (Q : VK) : Prop where
  | mk (l : _) (b : _) (xs : _) (zs : _) (h0_ : x = .ref l) (h1_ : vs = [.ref b]) (h2_ : H l = some (.lst xs)) (h3_ : H b = some (.lst zs)) (h4_ : xs.length + zs.length ≤ sizeLine) (h5_ : Q .non (upd H l (.lst (xs ++ zs)))) : rExtend_ x vs H Q
def rExtend : V → List V → Hp → VK → Prop := fun x vs H Q => rExtend_ x vs H Q
theorem mt_extend : MtM X "list.extend" rExtend := by
  intro pins s σ H x vs v us Q I rx rv h
  obtain ⟨l, b, xs, zs, rfl, rfl, hH, hB, hz, q⟩ := h
  cases rx
  obtain ⟨u, rfl, ru⟩ := rv.one
  cases ru
  obtain ⟨z, its, n, r, hl, e⟩ := I.lstM hH
  obtain ⟨z2, its2, n2, r2, hl2, e2⟩ := I.lstM hB
  have hsz : its.toArray.size + its2.toArray.size ≤ sizeLine := by rw [List.size_toArray, List.size_toArray]; lia
  have hlong : ¬ (!its.toArray.isEmpty && Builtin.List.listTooLong (its.toArray.size + its2.toArray.size)) = true := by
    rw [notLongL hsz, Bool.and_false]
    exact Bool.false_ne_true
  refine call_meets F.slot_list_extend ⟨_, e, rfl⟩ F.entry_list_extend (F.args_list_extend_2 _ _)
    (AutoSeq1.list_extend_list_list_0 l its.toArray n b its2.toArray n2 hlong (by rw [List.size_toArray]; lia) (by lia)) ⟨e, e2, ?_⟩
  refine ⟨.non, _, I.lset (its' := its ++ its2) hH e (by simp) (r.append r2) ?_, rfl, q⟩
  rw [List.length_append]
  lia

inductive rCat_ (x : V) (y : V) (H : Hp) (Q : VK) : Prop where
  | mk (l : _) (b : _) (xs : _) (zs : _) (h0_ : x = .ref l) (h1_ : y = .ref b) (h2_ : H l = some (.lst xs)) (h3_ : H b = some (.lst zs)) (h4_ : xs.length + zs.length ≤ sizeLine) (h5_ : ∀ p, H p = none → Q (.ref p) (upd H p (.lst (xs ++ zs)))) : rCat_ x y H Q
def rCat : R2 := fun x y H Q => rCat_ x y H Q
theorem op_cat : OpR X (binaryOp .Add) rCat := by
  intro pins s σ H x y v u Q I rx ry h
  obtain ⟨l, b, xs, zs, rfl, rfl, hH, hB, hz, q⟩ := h
  cases rx
  cases ry
  obtain ⟨z, its, n, r, hl, e⟩ := I.lstM hH
  obtain ⟨z2, its2, n2, r2, hl2, e2⟩ := I.lstM hB
  refine PySem.P.add_list e e2 ?_ (by rw [List.size_toArray, List.size_toArray]; omega)
  have ea : its.toArray ++ its2.toArray = (its ++ its2).toArray := by simp
  rw [ea]
  exact ⟨.ref _, _, I.lnew (t' := s.toks) (r.append r2) (by rw [List.length_append]; omega), rfl, q _ I.fresh⟩

end


section
variable {prog : Program} {w : World} {A : Around} {E : Value → Shared → Prop} {s : Shared}
set_option maxRecDepth 100000 in

end

section
variable {X : Cx}

end
end L2

namespace L2
open PySem PySem.Spec PyProof.Rows


section
variable {κ : Type} [DecidableEq κ]
def valV (kvs : List (κ × V)) (k : κ) : Option V := (kvs.find? fun kv => decide (kv.1 = k)).map (·.2)

def putK (kvs : List (κ × V)) (k : κ) (v : V) : List (κ × V) :=
  if (kvs.any fun kv => decide (kv.1 = k)) = true then kvs.map (fun kv => if kv.1 = k then (kv.1, v) else kv) else kvs ++ [(k, v)]
def dropK (kvs : List (κ × V)) (k : κ) : List (κ × V) := kvs.filter fun kv => decide (kv.1 ≠ k)

theorem valV_pos {p : κ × V} {r : List (κ × V)} {k : κ} (e : p.1 = k) : valV (p :: r) k = some p.2 := by simp [valV, List.find?_cons, e]
theorem valV_neg {p : κ × V} {r : List (κ × V)} {k : κ} (e : ¬ p.1 = k) : valV (p :: r) k = valV r k := by simp [valV, List.find?_cons, e]
theorem valV_any (k : κ) : ∀ kvs : List (κ × V), (kvs.any fun kv => decide (kv.1 = k)) = (valV kvs k).isSome
  | [] => rfl
  | p :: r => by
    rw [List.any_cons]
    by_cases e : p.1 = k
    · simp only [valV_pos e, decide_eq_true e, Bool.true_or, Option.isSome_some]
    · rw [valV_neg e, decide_eq_false e, Bool.false_or]; exact valV_any k r
theorem RelO.isSome_eq {o : Option V} {u : Option Value} (r : RelO o u) : o.isSome = u.isSome := by
  cases o with
  | none => cases u with
    | none => rfl
    | some _ => exact (show False from r).elim
  | some _ => cases u with
    | none => exact (show False from r).elim
    | some _ => rfl
theorem RelO.getD {o : Option V} {u : Option Value} {d : V} {d' : Value} (r : RelO o u) (rd : RelV d d') : RelV (o.getD d) (u.getD d') := by
  cases o with
  | none => cases u with
    | none => exact rd
    | some _ => exact (show False from r).elim
  | some _ => cases u with
    | none => exact (show False from r).elim
    | some _ => exact r


theorem KV.val {kvs : List (κ × V)} {vs : List (κ × Value)} (r : KV kvs vs) (k : κ) : RelO (valV kvs k) (valueAt vs k) := by
  unfold KV at r
  induction r with
  | nil => exact True.intro
  | @cons p q ps qs h t ih =>
    obtain ⟨h1, h2⟩ := h
    by_cases e : p.1 = k
    · have e' : q.1 = k := h1.symm.trans e
      have b : valueAt (q :: qs) k = some q.2 := by simp [valueAt, List.find?_cons, e']
      rw [valV_pos e, b]; exact h2
    · have e' : ¬ q.1 = k := fun z => e (h1.trans z)
      have b : valueAt (q :: qs) k = valueAt qs k := by simp [valueAt, List.find?_cons, e']
      rw [valV_neg e, b]; exact ih
theorem KV.any {kvs : List (κ × V)} {vs : List (κ × Value)} (r : KV kvs vs) (k : κ) : (kvs.any fun kv => decide (kv.1 = k)) = vs.any fun kv => decide (kv.1 = k) := by
  unfold KV at r
  induction r with
  | nil => rfl
  | cons h t ih => rw [List.any_cons, List.any_cons, ih, h.1]
theorem KV.repl {kvs : List (κ × V)} {vs : List (κ × Value)} (r : KV kvs vs) (k : κ) {y : V} {u : Value} (ry : RelV y u) :
    KV (kvs.map fun kv => if kv.1 = k then (kv.1, y) else kv) (vs.map fun kv => if kv.1 = k then (kv.1, u) else kv) := by
  unfold KV at r ⊢
  induction r with
  | nil => exact .nil
  | @cons p q ps qs h t ih =>
    rw [List.map_cons, List.map_cons]
    refine .cons ?_ ih
    obtain ⟨h1, h2⟩ := h
    by_cases e : p.1 = k
    · rw [if_pos e, if_pos (h1.symm.trans e)]; exact ⟨h1, ry⟩
    · rw [if_neg e, if_neg (fun z => e (h1.trans z))]; exact ⟨h1, h2⟩
theorem KV.put {kvs : List (κ × V)} {vs : List (κ × Value)} (r : KV kvs vs) (k : κ) {y : V} {u : Value} (ry : RelV y u) : KV (putK kvs k y) (stored vs k u) := by
  unfold putK stored
  rw [r.any k]
  by_cases e : (vs.any fun kv => decide (kv.1 = k)) = true
  · rw [if_pos e, if_pos e]; exact r.repl k ry
  · rw [if_neg e, if_neg e]; exact Paired.snoc r ⟨rfl, ry⟩
theorem KV.drop {kvs : List (κ × V)} {vs : List (κ × Value)} (r : KV kvs vs) (k : κ) : KV (dropK kvs k) (without vs k) := by
  unfold KV at r ⊢
  unfold dropK without
  induction r with
  | nil => exact .nil
  | @cons p q ps qs h t ih =>
    obtain ⟨h1, h2⟩ := h
    rw [List.filter_cons, List.filter_cons]
    by_cases e : p.1 = k
    · have a : ¬ decide (p.1 ≠ k) = true := by simp [e]
      have b : ¬ decide (q.1 ≠ k) = true := by simp [h1.symm.trans e]
      rw [if_neg a, if_neg b]; exact ih
    · have e' : ¬ q.1 = k := fun z => e (h1.trans z)
      have a : decide (p.1 ≠ k) = true := by simp [e]
      have b : decide (q.1 ≠ k) = true := by simp [e']
      rw [if_pos a, if_pos b]; exact .cons ⟨h1, h2⟩ ih
theorem KV.length {kvs : List (κ × V)} {vs : List (κ × Value)} (r : KV kvs vs) : kvs.length = vs.length := Paired.length r
end



abbrev KT (H : Hp) : List (List Key × V) → List (List Key × Addr × Value) → Prop := Paired fun p q => p.1 = q.1 ∧ H q.2.1 = some (.tup (p.1.map kV)) ∧ RelV p.2 q.2.2
theorem KT.val {H : Hp} {kvs : List (List Key × V)} {xs : List (List Key × Addr × Value)} (r : KT H kvs xs) (k : List Key) : RelO (valV kvs k) ((atKey xs k).map (·.2)) := by
  induction r with
  | nil => exact True.intro
  | @cons p q ps qs h t ih =>
    obtain ⟨h1, _, h2⟩ := h
    by_cases e : p.1 = k
    · have e' : q.1 = k := h1.symm.trans e
      have b : atKey (q :: qs) k = some q.2 := by simp [atKey, List.find?_cons, e']
      rw [valV_pos e, b]; exact h2
    · have e' : ¬ q.1 = k := fun z => e (h1.trans z)
      have b : atKey (q :: qs) k = atKey qs k := by simp [atKey, List.find?_cons, e']
      rw [valV_neg e, b]; exact ih
theorem KT.repl {H : Hp} {kvs : List (List Key × V)} {xs : List (List Key × Addr × Value)} (r : KT H kvs xs) (k : List Key) {y : V} {u : Value} (ry : RelV y u) :
    KT H (kvs.map fun kv => if kv.1 = k then (kv.1, y) else kv) (xs.map (putAt k u)) := by
  induction r with
  | nil => exact .nil
  | @cons p q ps qs h t ih =>
    rw [List.map_cons, List.map_cons]
    refine .cons ?_ ih
    obtain ⟨h1, h2, h3⟩ := h
    unfold putAt
    by_cases e : p.1 = k
    · rw [if_pos e, if_pos (h1.symm.trans e)]; exact ⟨h1, h2, ry⟩
    · rw [if_neg e, if_neg (fun z => e (h1.trans z))]; exact ⟨h1, h2, h3⟩
theorem KT.put {H : Hp} {kvs : List (List Key × V)} {xs : List (List Key × Addr × Value)} (r : KT H kvs xs) (k : List Key) {b : Addr} {y : V} {u : Value} (hb : H b = some (.tup (k.map kV))) (ry : RelV y u) :
    KT H (putK kvs k y) (storedH xs k b u) := by
  have e : (kvs.any fun kv => decide (kv.1 = k)) = (atKey xs k).isSome := by
    rw [valV_any, (r.val k).isSome_eq, Option.isSome_map]
  unfold putK storedH
  rw [e]
  by_cases q : (atKey xs k).isSome = true
  · rw [if_pos q, if_pos q]; exact r.repl k ry
  · rw [if_neg q, if_neg q]; exact Paired.snoc r ⟨rfl, hb, ry⟩
theorem KT.keeps {H H' : Hp} {kvs : List (List Key × V)} {xs : List (List Key × Addr × Value)} (r : KT H kvs xs) (ht : ∀ b ys, H b = some (.tup ys) → H' b = some (.tup ys)) : KT H' kvs xs :=
  Paired.mapP r fun _ _ z => ⟨z.1, ht _ _ z.2.1, z.2.2⟩

section
variable {P : Program} {w : World} {H : Hp} {h : Heap} {a : Addr}
end


def DGet (H : Hp) (a : Addr) (y : V) (r : Option V) : Prop :=
  (∃ kvs k, Rd H a (.dK kvs) ∧ y = kV k ∧ r = valV kvs k) ∨ ∃ kvs k b, Rd H a (.dT kvs) ∧ y = .ref b ∧ H b = some (.tup (k.map kV)) ∧ r = valV kvs k

def DPut (H : Hp) (a : Addr) (y v : V) (H' : Hp) : Prop :=
  (∃ kvs k, H a = some (.dK kvs) ∧ y = kV k ∧ kvs.length < sizeLine ∧ H' = upd H a (.dK (putK kvs k v))) ∨
  ∃ kvs k b, H a = some (.dT kvs) ∧ y = .ref b ∧ H b = some (.tup (k.map kV)) ∧ kvs.length < sizeLine ∧ H' = upd H a (.dT (putK kvs k v))
theorem DGet.k {H : Hp} {a : Addr} {kvs : List (Key × V)} {k : Key} (e : H a = some (.dK kvs)) : DGet H a (kV k) (valV kvs k) := .inl ⟨kvs, k, .inl e, rfl, rfl⟩
theorem DGet.t {H : Hp} {a b : Addr} {kvs : List (List Key × V)} {k : List Key} (e : H a = some (.dT kvs)) (eb : H b = some (.tup (k.map kV))) : DGet H a (.ref b) (valV kvs k) := .inr ⟨kvs, k, b, .inl e, rfl, eb, rfl⟩
theorem DPut.k {H : Hp} {a : Addr} {kvs : List (Key × V)} {k : Key} {v : V} (e : H a = some (.dK kvs)) (hl : kvs.length < sizeLine) : DPut H a (kV k) v (upd H a (.dK (putK kvs k v))) := .inl ⟨kvs, k, e, rfl, hl, rfl⟩
theorem DPut.t {H : Hp} {a b : Addr} {kvs : List (List Key × V)} {k : List Key} {v : V} (e : H a = some (.dT kvs)) (eb : H b = some (.tup (k.map kV))) (hl : kvs.length < sizeLine) :
    DPut H a (.ref b) v (upd H a (.dT (putK kvs k v))) := .inr ⟨kvs, k, b, e, rfl, eb, hl, rfl⟩


section
variable {X : Cx} {pins : List (Addr × Obj)} {σ : St} {H : Hp} {s : Shared} {a : Addr} {y v : V} {u r : Value} {o : Option V} {A : Around} {E : Value → Shared → Prop}

end

section
variable {X : Cx} {pins : List (Addr × Obj)} {σ : St} {H : Hp} {s : Shared} {a : Addr} {kvs : List (Key × V)} {k : Key} {u : Value} {A : Around} {E : Value → Shared → Prop}

end




section
variable {X : Cx} {o i e value : Expr} {pos pos' tpos : Pos} {td ty tv : TE}
end



section
variable {X : Cx} {pos : Pos}
end


def mergeK (kvs more : List (Key × V)) : List (Key × V) := more.foldl (fun acc kv => putK acc kv.1 kv.2) kvs
theorem KV.merge : ∀ {more : List (Key × V)} {rs : List (Key × Value)} {kvs : List (Key × V)} {vs : List (Key × Value)}, KV more rs → KV kvs vs → KV (mergeK kvs more) (merged vs rs) := by
  intro more rs kvs vs r
  unfold KV at r
  induction r generalizing kvs vs with
  | nil => intro q; exact q
  | @cons p q ps qs h t ih =>
    intro r0
    have e : KV (putK kvs p.1 p.2) (stored vs q.1 q.2) := by
      have := r0.put p.1 h.2
      rw [← h.1]; exact this
    exact ih e
structure M1 (X : Cx) (o : Expr) (m : Str) (apos : Pos) (e : Expr) (cpos : Pos) : Prop where
  base : attributeBase o m X.env (eval o X.env) = eval o X.env
  few : ((backTo cpos (starEach [e] X.env)).all (fun x => !x.1) && (backToKw cpos (keywordEach [] X.env)).all (fun x => x.1.isSome)
    && decide (([e] : List Expr).length + ([] : List Keyword).length + (if ([] : List Keyword).isEmpty then 0 else 1) < 30)) = true
  line : (apos.endLine == cpos.line) = true
  trees : backTo cpos (starEach [e] X.env) = [(false, eval e X.env)]
structure M2 (X : Cx) (o : Expr) (m : Str) (apos : Pos) (e f : Expr) (cpos : Pos) : Prop where
  base : attributeBase o m X.env (eval o X.env) = eval o X.env
  few : ((backTo cpos (starEach [e, f] X.env)).all (fun x => !x.1) && (backToKw cpos (keywordEach [] X.env)).all (fun x => x.1.isSome)
    && decide (([e, f] : List Expr).length + ([] : List Keyword).length + (if ([] : List Keyword).isEmpty then 0 else 1) < 30)) = true
  line : (apos.endLine == cpos.line) = true
  trees : backTo cpos (starEach [e, f] X.env) = [(false, eval e X.env), (false, eval f X.env)]


section
variable {X : Cx} {pins : List (Addr × Obj)} {σ : St} {H : Hp} {s : Shared} {a : Addr} {y d : V} {u r : Value} {o : Option V} {A : Around} {E : Value → Shared → Prop}

end

section
variable {X : Cx} {o e f : Expr} {apos cpos : Pos} {td ty tx : TE}
end


section
variable {X : Cx} {pins : List (Addr × Obj)} {σ : St} {H : Hp} {s : Shared} {a : Addr} {kvs : List (Key × V)} {A : Around} {E : Value → Shared → Prop}
end


section
variable {X : Cx} {pins : List (Addr × Obj)} {σ : St} {H : Hp} {s : Shared} {a : Addr} {y : V} {u : Value} {A : Around} {E : Value → Shared → Prop}

end
end L2

namespace Att
open PySem PySem.W PySem.Calls PyProof.Rows


theorem ints_of_wellAll {P : Params} {h : Heap} : ∀ (ns : List Int) (vs : List Value), WellAll P h vs (ns.map WData.int) → IntsAre vs ns := by
  intro ns
  induction ns with
  | nil =>
    intro vs w
    rw [List.map_nil] at w
    cases w
    exact .nil
  | cons n ns ih =>
    intro vs w
    rw [List.map_cons] at w
    cases w with
    | cons a b =>
      cases a
      exact .cons _ _ (ih _ b)

theorem script_of {l : OpenLaw} {n : Nat} (hn : l.most = some n) {P : Params} {h : Heap} {args : List WData} {vals : List Value}
    (hpre : l.row.toRowW.claim.pre args = true) (hwl : WellAll P h vals args) :
    ∃ a vs ns, vals = [Value.ref a] ∧ args = [WData.list (ns.map WData.int)] ∧ h.get? a = some { cls := .type "list", data := .seq vs.toArray } ∧ IntsAre vs ns ∧ ns.length ≤ n := by
  have hsh : WShape.hasAll [] args [.list .int] = true := (pre_splitW hpre).1
  have hc : l.pre.holds [] { args := args } = true := (pre_splitW hpre).2
  obtain ⟨d, r, rfl, h1, h2⟩ := hasAllW_cons hsh
  obtain rfl := hasAllW_nil h2
  obtain ⟨xs, rfl, h3⟩ := hasW_list h1
  obtain ⟨ns, rfl⟩ := items_int h3
  have hlen : ns.length ≤ n := by
    unfold OpenLaw.pre at hc
    have h4 : (WTm.not (.lt (.lit (.int (n : Int))) (.len (.arg 0)))).holds [] { args := [.list (ns.map .int)] } = true := by
      have h4 := (holds_andW hc).1
      rw [hn] at h4
      exact h4
    have h5 := condW_of h4 (w_not (w_lt w_lit (w_len_list (w_arg rfl))))
    rw [List.length_map] at h5
    refine Nat.le_of_not_lt fun q => ?_
    have q' : (n : Int) < ((ns.length : Nat) : Int) := by omega
    first
      | (rw [decide_eq_true q'] at h5; exact absurd h5 (by decide))
      | (simp at h5; omega)
  cases hwl with
  | cons w1 w2 =>
    cases w2
    cases w1 with
    | list ho hall => exact ⟨_, _, ns, rfl, rfl, ho, ints_of_wellAll ns _ hall, hlen⟩

theorem post_true (l : OpenLaw) (args : List WData) : l.row.toRowW.claim.post args (.bool true) args = true :=
  postW_of (r := l.row.toRowW) (X := (true == true))
    (show WShape.has [] (.bool true) .bool = true by first | rfl | decide | simp [WShape.has, WShape.arms, WShape.armsAll])
    (show (WTm.eq .res (.lit (.bool true))).value [] { args := args, res := some (.bool true), after := args } = some (.bool (true == true)) from w_eq_bool (w_res rfl) w_lit) rfl


theorem attach_call {l : OpenLaw} {n : Nat} {q : Program} {loose : List Str} {XP : (Str → Option Value) → Heap → Prop} {YP : World → Heap → Prop} {d : DefRec}
    (hn : l.most = some n) (hdf : d.params.defaults = [])
    (call : ∀ (w : World) (s₀ s₁ : Shared) (mg mb : Str → Option Value) (fa : Addr) (o : Obj) (pm cd doc : Value) (a : Addr) (vs : List Value) (ns : List Int),
      Ground q loose [] XP w s₀ mg mb s₁.heap → YP w s₁.heap →
      s₁.heap.get? fa = some o → o.data = .func (docDef d.name d.params d.body d.scope pm cd doc) → s₁.heap.CodeRec cd d.name → mg d.name = some (.ref fa) →
      s₁.heap.get? a = some { cls := .type "list", data := .seq vs.toArray } → IntsAre vs ns → ns.length ≤ n → s₁.gens = #[] →
      codeAny (model l.prog w) callerA (.call (.ref fa) ⟨[.ref a], []⟩) (fun r s' => r = .ok (.ret (.bool true)) ∧ OldK s₁.heap s'.heap ∧ s'.os = s₁.os ∧ AllBare s'.gens) s₁) :
    WalkO q loose XP YP l.row.toRowW d [] (fun f vs => PySem.call f vs) := by
  intro w s₀ s₁ mg mb G Y fa o pm cd doc dV kV ho hd hcd hD hmg hg args vals as hpre hlay hrd hwl hlo
  obtain rfl : dV = .none := Dflts.none hD hdf
  obtain rfl : kV = .none := Dflts.noKw hD
  obtain ⟨a, vs, ns, rfl, rfl, hobj, hints, hlen⟩ := script_of hn hpre hwl
  refine enter_call (codeAny_mono (call w s₀ s₁ mg mb fa o pm cd doc a vs ns G Y ho (fd_plain hd) hcd hmg hobj hints hlen hg) fun r s' hq => ?_)
  obtain ⟨rfl, h2, h3, h4⟩ := hq
  exact ⟨.inl ⟨.bool true, .bool true, [], rfl, fun _ => rfl, .bool true, post_true l _, fun _ => ⟨List.Pairwise.nil, fun _ hm => (nomatch hm)⟩⟩, h2, h3, h4⟩


section
variable {prog : Program} {w : World} {A : Around} {E : Value → Shared → Prop} {s : Shared} {K : Frag}


end
end Att

namespace L2
open PySem PySem.Spec PyProof.Rows

theorem vals_ints : ∀ {vs : List Value} {ns : List Int}, IntsAre vs ns → Vals (ns.map V.int) vs
  | _, _, .nil => .nil
  | _, _, .cons n t h => .cons ⟨t, rfl⟩ (vals_ints h)


def Only (H : Hp) : Prop := ∀ b, H b = none ∨ ∃ o xs, H b = some (.frz o (.lst xs))


theorem law_call {P : Program} {w : World} {K : PySem.W.Frag} {mg mb : Str → Option Value} {CX : CXT} {k : Nat} {fa a : Addr} {fd : FuncData} {x : Str} {sp : Sp} {s₁ : Shared} {vs : List Value} {ns : List Int}
    (KX : K.In s₁.heap) (hns : s₁.heap.Ns mainGlobals mg) (hb : s₁.heap.Ns builtinsNs mb) (hbb : ∀ x : Str, x ≠ "__name__" → mb x = bootBuiltins x) (hlim : s₁.heap.NoLimit) (hg : s₁.gens = #[])
    (ha : s₁.heap.get? a = some { cls := .type "list", data := .seq vs.toArray }) (hi : IntsAre vs ns) (hl : ns.length ≤ sizeLine) (hr : Room k callerA)
    (F : ∀ base : Heap, K.In base → base.Ns mainGlobals mg → FnOk P w K mg base CX k fa fd [x] sp) (hbind : ∀ (s : Shared) (u : Value), BindsTo s fd ⟨[u], []⟩ [(x, u)])
    (hsp : ∀ H : Hp, Only H → SqL K H a (ns.map V.int) → sp [.ref a] H (fun v _ => v = .bl true) fun _ _ _ => False)
    (hCX : ∀ H e s', CX [] H s₁ (fun _ _ _ => False) e s' → False) :
    codeAny (model P w) callerA (.call (.ref fa) ⟨[.ref a], []⟩) (fun r s' => r = .ok (.ret (.bool true)) ∧ OldK s₁.heap s'.heap ∧ s'.os = s₁.os ∧ AllBare s'.gens) s₁ := by
  have rv := vals_ints hi
  have lenV := hi.length
  -- from an abstract heap in which nothing but the script may be tracked
  have core : ∀ H : Hp, Only H → SqL K H a (ns.map V.int) → HOk P w H s₁.heap → (∀ b, H b ≠ none → b = a) → (H a ≠ none → K.lookup a = none) →
      codeAny (model P w) callerA (.call (.ref fa) ⟨[.ref a], []⟩) (fun r s' => r = .ok (.ret (.bool true)) ∧ OldK s₁.heap s'.heap ∧ s'.os = s₁.os ∧ AllBare s'.gens) s₁ := by
    intro H hO hS hok hA hK
    have base_of : ∀ {b : Addr} {o : Obj}, s₁.heap.get? b = some o → H b = none → (hidT s₁.heap H).get? b = some o := fun e n => hidT_get e n
    have noA : ∀ {b : Addr} {o : Obj} {es : Array DictEntry} {ep : Nat}, s₁.heap.get? b = some o → o.data = .dict es ep → H b = none := fun {b o es ep} e d => by
      cases q : H b with
      | none => rfl
      | some u =>
        have e' : b = a := hA b (by rw [q]; simp)
        subst e'
        rw [ha] at e; cases e
        have d' : Data.seq vs.toArray _ = Data.dict es ep := d
        cases d'
    have nsK : ∀ {b : Addr} {m : Str → Option Value}, s₁.heap.Ns b m → (hidT s₁.heap H).Ns b m := fun {b m} ⟨o, es, ep, e, d, r⟩ => ⟨o, es, ep, base_of e (noA e d), d, r⟩
    have hKb : K.In (hidT s₁.heap H) := fun b o e => base_of (KX b o e) (by
      cases q : H b with
      | none => rfl
      | some u =>
        have e' : b = a := hA b (by rw [q]; simp)
        subst e'
        rw [hK (by rw [q]; simp)] at e; cases e)
    have hM : Mod K mg (hidT s₁.heap H) := ⟨hKb, nsK hns, ⟨mb, nsK hb, hbb⟩, let ⟨mc, h1, h2⟩ := hlim; ⟨mc, nsK h1, h2⟩⟩
    have e0 : Env0 P w K mg (hidT s₁.heap H) callerA [] s₁ H := ⟨rfl, hM, fun b o e => of_hidT e, Nat.le_of_eq (hidT_size _ _), trivial, fun b hb => absurd (show b ∈ ([] : List Addr) from hb) (by simp), hok, .of_eq hg⟩
    refine codeAny_mono ((F _ hKb (nsK hns)).run callerA [] s₁ H ⟨[.ref a], []⟩ [.ref a] [.ref a] _ _ hr e0 (hbind s₁ (.ref a)) (.cons rfl .nil) (hsp H hO hS)) fun r s' h => ?_
    cases r with
    | error e => exact (hCX H e s' h).elim
    | ok fl =>
      cases fl with
      | next => exact False.elim h
      | brk => exact False.elim h
      | cont => exact False.elim h
      | ret u =>
        obtain ⟨v, H', os, bare, un, hok', r', q⟩ := h
        have q' : v = .bl true := q
        subst q'
        obtain rfl : u = Value.bool true := r'
        refine ⟨rfl, OldK.of_keep fun b o e => ?_, os, bare⟩
        cases q : H b with
        | none => exact un.keep b o e q (by intro z; exact absurd (show b ∈ ([] : List Addr) from z) (by simp)) (by simp)
        | some u =>
          rcases hO b with z | ⟨ob, xs, z⟩
          · rw [q] at z; cases z
          · have z2 := un.frzs b ob _ z
            obtain ⟨e1, _⟩ := hok b _ z
            obtain ⟨e2, _⟩ := hok' b _ z2
            rw [e] at e1; cases e1
            exact e2
  cases hk : K.lookup a with
  | some o =>
    -- the script is one of the module's own objects
    have e := KX a o hk
    rw [ha] at e
    cases e
    refine core (fun _ => none) (fun _ => .inl rfl) (.inr ⟨_, vs.toArray, _, hk, rfl, rfl, rfl, by rw [List.size_toArray, lenV]; exact hl, by simpa using rv⟩) (fun b u z => by have z' : (none : Option HO) = some u := z; cases z') (fun b z => absurd rfl z) fun z => absurd rfl z
  | none =>
    refine core (fun b => if b = a then some (.frz { cls := .type "list", data := .seq vs.toArray } (.lst (ns.map V.int))) else none) (fun b => ?_) (.inl (.inr ⟨{ cls := .type "list", data := .seq vs.toArray }, if_pos rfl⟩)) (fun b u z => ?_) (fun b z => ?_) fun _ => hk
    · by_cases hb : b = a
      · exact .inr ⟨_, _, if_pos hb⟩
      · exact .inl (if_neg hb)
    · by_cases hb : b = a
      · have z' := (if_pos hb).symm.trans z
        cases z'
        subst hb
        exact ⟨ha, by rw [List.length_map]; exact hl, vs, _, rv, ha⟩
      · have z' := (if_neg hb).symm.trans z
        cases z'
    · by_cases hb : b = a
      · exact hb
      · exact absurd (if_neg hb) z
end L2

namespace L2
open PySem PySem.Spec PyProof.Rows

theorem walk_of {l : PySem.W.OpenLaw} {n k : Nat} {q : Program} {loose : List Str} {XP : (Str → Option Value) → Heap → Prop} {YP : World → Heap → Prop} {d : DefRec} {K : Params → PySem.W.Frag} {CX : World → CXT} {sp : World → Sp} {x : Str}
    (hn : l.most = some n) (hn2 : n ≤ sizeLine) (hdf : d.params.defaults = []) (hr : Room k callerA)
    (hY : ∀ (w : World) (h : Heap), YP w h → (K w.params).In h)
    (F : ∀ (w : World) (mg : Str → Option Value) (fa : Addr) (h : Heap), (K w.params).In h → h.Ns mainGlobals mg → mg d.name = some (.ref fa) →
      ∃ fd : FuncData, (∀ (s : Shared) (u : Value), BindsTo s fd ⟨[u], []⟩ [(x, u)]) ∧
        ∀ base : Heap, (K w.params).In base → base.Ns mainGlobals mg → FnOk l.prog w (K w.params) mg base (CX w) k fa fd [x] (sp w))
    (hsp : ∀ (w : World) (H : Hp) (a : Addr) (ns : List Int), ns.length ≤ n → Only H → SqL (K w.params) H a (ns.map V.int) → sp w [.ref a] H (fun v _ => v = .bl true) fun _ _ _ => False)
    (hCX : ∀ (w : World) (H : Hp) (s : Shared) (e : Value) (s' : Shared), CX w [] H s (fun _ _ _ => False) e s' → False) :
    PySem.W.WalkO q loose XP YP l.row.toRowW d [] (fun f vs => PySem.call f vs) := by
  refine Att.attach_call hn hdf fun w s₀ s₁ mg mb fa o pm cd doc a vs ns G Y ho hd hcd hmg hobj hints hlen hg => ?_
  have KX := hY w _ Y
  obtain ⟨fd, hb, hF⟩ := F w mg fa _ KX G.T.g hmg
  exact law_call KX G.T.g G.T.b G.T.builtins G.T.nolimit hg hobj hints (Nat.le_trans hlen hn2) hr hF hb (fun H hO hS => hsp w H a ns hlen hO hS) fun H e s' => hCX w H s₁ e s'

end L2




namespace L2
open PySem PySem.Spec PyProof.Rows



def inClass (s : Stmt) (j : Nat) : Stmt := match s with
  | .ClassDef _ _ _ body _ _ _ _ _ _ _ => body.getD j (.Pass ⟨0, 0, 0, 0⟩)
  | _ => .Pass ⟨0, 0, 0, 0⟩
def defArgs (s : Stmt) : Arguments := match s with
  | .FunctionDef _ a _ _ _ _ _ _ _ _ => a
  | _ => { posonlyargs := [], args := [], vararg := none, kwonlyargs := [], kw_defaults := [], kwarg := none, defaults := [] }
def defBody (s : Stmt) : List Stmt := match s with
  | .FunctionDef _ _ b _ _ _ _ _ _ _ => b
  | _ => []
def defScope (s : Stmt) : Scope := match s with
  | .FunctionDef _ _ _ _ _ _ sc _ _ _ => sc
  | _ => { kind := .function, names := [], isGenerator := false, isCoroutine := false }


abbrev CX0 : CXT := fun _ _ _ _ _ _ => False
abbrev E0 : XK := fun _ _ _ => False
theorem pass0 {X : Cx} : Passes CX0 X E0 := fun _ _ _ _ _ _ _ h => h.elim


structure Fun (K : PySem.W.Frag) (x qual : Str) (st : Stmt) (f : Addr) (fd : FuncData) : Prop where
  ex : ∃ (oc : Value) (od : Option Addr) (kV doc pm : Value) (an : Option Addr) (cdv ct : Value) (osl : Array (Option Value)),
    fd = PySem.W.fnOf x qual (defArgs st) (defBody st) (defScope st) .none kV doc pm an cdv ct ∧ K.lookup f = some ⟨oc, od, .func fd, osl⟩ ∧ PySem.W.codeIn K cdv qual = true
  kp : PySem.W.keepIn K (.ref f) = true
section
variable {P : Program} {w : World} {K : PySem.W.Frag} {mg : Str → Option Value} {base : Heap}

theorem Fun.ok {x qual : Str} {st : Stmt} {f : Addr} {fd : FuncData} {N ps : List Str} {k : Nat} {sp : Sp} (F : Fun K x qual st f fd) (S : FnScope N ps (defScope st)) (len : ∀ vs H Q E, sp vs H Q E → vs.length = ps.length)
    (hbody : ∀ (cdv : Value) (A : Around) (outer : List Env) (s : Shared) (H : Hp) (vs : List V) (Q : VK) (E : XK), Room k (A.deeper (envOfC qual (defScope st) s.heap.objs.size f cdv)) → sp vs H Q E →
      ∃ t, PSs (cxOf CX0 P w K mg base N qual (defScope st) f cdv A outer s H E).nox (defBody st) t ∧ t { nx := fun _ H' => Q .non H', rt := Q } (start N vs) H) : FnOk P w K mg base CX0 (k + 1) f fd ps sp := by
  obtain ⟨oc, od, kV, doc, pm, an, cdv, ct, osl, rfl, lk, hcd⟩ := F.ex
  refine fn_of lk hcd S len fun A outer s H vs Q E hr hsp => ?_
  obtain ⟨t, h, q⟩ := hbody cdv A outer s H vs Q E hr hsp
  exact ⟨t, h.nox, q⟩

theorem Fun.binds {x qual : Str} {st : Stmt} {f : Addr} {fd : FuncData} {ps : List Str} (F : Fun K x qual st f fd)
    (h : ∀ (kV doc pm : Value) (an : Option Addr) (cdv ct : Value) (us : List Value), us.length = ps.length → bindArgs (PySem.W.fnOf x qual (defArgs st) (defBody st) (defScope st) .none kV doc pm an cdv ct) ⟨us, []⟩ = pure (ps.zip us)) : Binds K fd ps [] := by
  obtain ⟨oc, od, kV, doc, pm, an, cdv, ct, osl, rfl, lk, hcd⟩ := F.ex
  exact .all (h kV doc pm an cdv ct)
theorem fun_mk {x qual : Str} {st : Stmt} {f : Addr} {oc : Value} {od an : Option Addr} {osl : Array (Option Value)} {kV doc pm cdv ct : Value} (l : K.lookup f = some ⟨oc, od, .func (PySem.W.fnOf x qual (defArgs st) (defBody st) (defScope st) .none kV doc pm an cdv ct), osl⟩)
    (c : PySem.W.codeIn K cdv qual = true) (k : PySem.W.keepIn K (.ref f) = true) : Fun K x qual st f (PySem.W.fnOf x qual (defArgs st) (defBody st) (defScope st) .none kV doc pm an cdv ct) := ⟨⟨oc, od, kV, doc, pm, an, cdv, ct, osl, rfl, l, c⟩, k⟩
end
theorem hu_of {A : Around} {k : Nat} (hr : Room k A) : A.units + 1 < cLine := Nat.lt_of_le_of_lt (Nat.add_le_add_left (by decide : 1 ≤ 64) _) hr.units
section
variable {X : Cx}
theorem pv (i : Nat) {x : Str} {pos : Pos} (hN : X.N[i]? = some x := by rfl) (hv : Vis X.env.scope x := by first | exact Or.inl rfl | exact Or.inr (Or.inl rfl) | exact Or.inr (Or.inr rfl)) (hd : (x == ("__debug__" : Str)) = false := by decide)
    (hcd : (x == ("__classdict__" : Str)) = false := by decide) : PE X (.Name x pos) (tVar i) := pe_var hN hv hd hcd
end


theorem iteF {A B : Prop} (h : B) : if false = true then A else B := by
  rw [if_neg Bool.false_ne_true]
  exact h
theorem iteT {A B : Prop} (h : A) : if true = true then A else B := by
  rw [if_pos rfl]
  exact h
theorem ite2 {c A B : Prop} [Decidable c] (h1 : c → A) (h2 : ¬ c → B) : if c then A else B := by
  by_cases h : c
  · rw [if_pos h]
    exact h1 h
  · rw [if_neg h]
    exact h2 h
def Same (H H' : Hp) : Prop := ∀ b o, H b = some o → H' b = some o
theorem Same.refl (H : Hp) : Same H H := fun _ _ h => h
theorem Same.trans {H H1 H2 : Hp} (a : Same H H1) (b : Same H1 H2) : Same H H2 := fun c o h => b c o (a c o h)
theorem Same.free {H H' : Hp} (e : Same H H') {l : Addr} (h : H' l = Option.none) : H l = Option.none := by
  cases q : H l with
  | none => rfl
  | some o =>
    rw [e l o q] at h
    cases h
theorem Same.seq {K : PySem.W.Frag} {H H' : Hp} {a : Addr} {xs : List V} (e : Same H H') (h : SqL K H a xs) : SqL K H' a xs := by
  rcases h with (h | ⟨o, h⟩) | h
  · exact .inl (.inl (e _ _ h))
  · exact .inl (.inr ⟨o, e _ _ h⟩)
  · exact .inr h

end L2


set_option linter.all false
set_option maxRecDepth 100000
set_option maxHeartbeats 4000000
namespace L2
open PySem PySem.Spec PyProof.Rows

theorem ObjOk.at_ {P : Program} {w : World} {H : Hp} {h : Heap} {a : Addr} {o : HO} (x : ObjOk P w H h a o) : ∃ u, h.get? a = some u := by
  cases o with
  | lst xs => obtain ⟨_, _, _, _, e⟩ := x; exact ⟨_, e⟩
  | tup xs => obtain ⟨_, _, _, o, e, _⟩ := x; exact ⟨_, e⟩
  | dK kvs => obtain ⟨_, _, _, _, o, _, _, e, _⟩ := x; exact ⟨_, e⟩
  | dT kvs => obtain ⟨_, _, _, _, o, _, _, e, _⟩ := x; exact ⟨_, e⟩
  | set S n => obtain ⟨o, _, _, _, e, _⟩ := x; exact ⟨_, e⟩
  | ins C dx fs => obtain ⟨_, _, _, e, _⟩ := x; exact ⟨_, e⟩
  | own y => obtain ⟨o, e⟩ := x; exact ⟨_, e⟩
  | xd fs => obtain ⟨_, ⟨o, _, _, e, _⟩, _⟩ := x; exact ⟨_, e⟩
  | rng lo hi => obtain ⟨_, _, _, e⟩ := x; exact ⟨_, e⟩
  | frz ob u => obtain ⟨e, _⟩ := x; exact ⟨_, e⟩
  | tbl ps => exact ⟨_, (show h.get? a = some _ from x)⟩
  | met f y => exact ⟨_, (show h.get? a = some _ from x)⟩
  | ext φ => obtain ⟨_, e, _⟩ := x; exact e


structure Fly (P : Program) (w : World) (l : List Env) (H : Hp) (s : Shared) (e : Addr) (cls : Value) (H' : Hp) (s' : Shared) : Prop where
  os : s'.os = s.os
  bare : AllBare s'.gens
  un : Un (frs l) [] H H' s.heap s'.heap
  hok : HOk P w H' s'.heap
  new : H' e = none
  fly : ∃ B a0, Heap.FlyingW B l e cls a0 s'.heap ∧ (∀ b u, H' b = some u → ∃ o, B.get? b = some o) ∧ ∀ b o, s.heap.get? b = some o → b ∉ frs l → ∃ o', B.get? b = some o'
def CXo (P : Program) (w : World) : CXT := fun l H s E ev s' => ∃ e cls H', ev = .ref e ∧ Fly P w l H s e cls H' s' ∧ E cls none H'

structure Sink (X : Cx) (E : XK) : Prop where
  made : ∀ (pins : List (Addr × Obj)) (σ : St) (H : Hp) (s : Shared) (e : Addr) (cls : Value) (args : List Value) (h' : Heap), Inv X pins σ H s → Heap.MadeExcOf s.heap h' e cls args → E cls none H → X.xe (.ref e) { s with heap := h' }
  on : Passes (CXo X.prog X.w) X E


section
variable {X : Cx} {E : XK} {x : Str} {C : Addr} {e : Expr} {t : TA} {np cpos pos : Pos}
end
end L2


set_option linter.all false
set_option maxRecDepth 100000
set_option maxHeartbeats 4000000
namespace L2
open PySem PySem.Spec PyProof.Rows


def XP (X : Cx) (pins : List (Addr × Obj)) (σ : St) (E : XK) (ev : Value) (s' : Shared) : Prop := ∃ (e : Addr) (cls : Value) (H' : Hp) (B : Heap) (a0 : Value), ev = .ref e ∧ Inv X pins σ H' s' ∧ Heap.FlyingW B X.stack e cls a0 s'.heap ∧ H' e = none ∧
  (∀ b u, H' b = some u → ∃ o, B.get? b = some o) ∧ (∀ b o, X.s₀.heap.get? b = some o → b ∉ frs X.stack → b ∉ X.ex → ∃ o', B.get? b = some o') ∧ (∀ p ∈ X.pn ++ pins, ∃ o', B.get? p.1 = some o') ∧ E cls none H'
section
variable {X : Cx} {pins : List (Addr × Obj)} {σ : St} {H : Hp} {s s' : Shared} {E : XK}
theorem Inv.notStk (I : Inv X pins σ H s) {b : Addr} (h1 : b ≠ X.env.locals) (h2 : b ∉ X.fs) : b ∉ frs X.stack := fun hb => (List.mem_cons.mp (I.stkSub b hb)).elim h1 h2
end


section
variable {X : Cx} {k : Nat} {f : Addr} {fd : FuncData} {ps : List Str} {sp : Sp} {dvs : List V} {ds : List Value} {x : Str} {p pos : Pos} {e : Expr} {es : List Expr} {t : TA}
variable {te : St → Hp → VK → XK → Prop}
end


section
variable {X : Cx} {pins : List (Addr × Obj)} {σ : St} {H : Hp} {s : Shared}
end

end L2


set_option linter.all false
set_option maxRecDepth 100000
set_option maxHeartbeats 4000000
namespace L2
open PySem PySem.Spec PyProof.Rows


section
variable {X : Cx} {tg : Expr}
end
abbrev cxComp (X : Cx) (N : List Str) (scope : Scope) (cl : List (Str × Addr)) (C : Addr) (s₀ : Shared) (H₀ : Hp) (ex : List Addr) (pn : List (Addr × Obj)) : Cx :=
  { X with N := N, s₀ := s₀, H₀ := H₀, env := compEnvC scope cl C X.env, outer := X.stack, stack := X.stack, ex := ex, fn := fun _ => false, pn := pn, xe := fun _ _ => False }

def PTs (X : Cx) (ifs : List Expr) (t : TT) : Prop :=
  ∀ (pins : List (Addr × Obj)) (s : Shared) (σ : St) (H : Hp) (Q : Bool → Hp → Prop), Inv X pins σ H s → t σ H Q →
    wpAny (model X.prog X.w) X.A (forIn ifs true fun c r => if r = true then do let ok ← isTrue c X.env (eval c X.env); pure (ForInStep.yield ok) else pure (ForInStep.yield r)) (TP X pins σ Q) X.xe s
def tYes : TT := fun _ H Q => Q true H
theorem pts_nil {X : Cx} : PTs X [] tYes := fun _ _ _ H _ I h => wpAny_tests_nil ⟨H, I, h⟩
theorem pts_one {X : Cx} {c : Expr} {t : TT} (h : PT X c t) : PTs X [c] t := fun pins s σ H Q I hw => wpAny_tests_one (h pins s σ H Q I hw)

def pick (ρ : List (Option Nat)) (σ : St) : St := ρ.map fun o => o.bind fun j => (σ[j]?).bind id

def CompOk (J : It) (g : TG) (tc : TT) (te : TE) (Q : VK) (l : Addr) (τ : St) (H1 : Hp) : Prop :=
  ∃ W : Nat → Nat → List V → St → Hp → Prop, (∃ m, W 0 m [] τ (upd H1 l (.lst []))) ∧ ∀ i m ys τ H2, W i m ys τ H2 →
    (J.stop i H2 ∧ Q (.ref l) H2) ∨ (J.go i H2 ∧ ∀ x H3, J.yld i H2 x H3 → g x τ H3 fun τ4 H4 => tc τ4 H4 fun b H5 =>
      if b = true then te τ4 H5 fun y H6 => H6 l = some (.lst ys) ∧ ys.length < sizeLine ∧ ∃ m', m' < m ∧ W (i + 1) m' (ys ++ [y]) τ4 (upd H6 l (.lst (ys ++ [y])))
      else ∃ m', m' < m ∧ W (i + 1) m' ys τ4 H5)
def tComp (ρ : List (Option Nat)) (wi : TI) (g : TG) (tc : TT) (te : TE) : TE := fun σ H Q => wi σ H fun J H1 => ∀ l, H1 l = none → CompOk J g tc te Q l (pick ρ σ) H1


theorem comp_loop {prog : Program} {w : World} {A : Around} {R : Result → Shared → Prop} {s : Shared} {elt target iter : Expr} {ifs : List Expr} {scope : Scope} {pos : Pos} {it acc : Value} {env : Env} (Iv : Nat → Shared → Prop)
    (turn : ∀ n s, Iv n s → wpAny (model prog w) A (pyNext it) (fun r s1 => match r with
      | none => R (.ok .next) s1
      | some v => wpAny (model prog w) A (letOwnedTupleGo target it v) (fun _ s1' => wpAny (model prog w) A (assign target env v) (fun _ s2 =>
          wpAny (model prog w) A (forIn ifs true fun c r => if r = true then do let ok ← isTrue c env (eval c env); pure (ForInStep.yield ok) else pure (ForInStep.yield r)) (fun ok s3 =>
            if ok = true then wpAny (model prog w) A (eval elt env) (fun x s4 =>
              wpAny (model prog w) A (call (.builtin "list.append") [acc, x]) (fun _ s5 => ∃ m, m < n ∧ Iv m s5) (fun _ _ => False) s4) (fun _ _ => False) s3
            else ∃ m, m < n ∧ Iv m s3) (fun _ _ => False) s2) (fun _ _ => False) s1') (fun _ _ => False) s1) (fun _ _ => False) s)
    (n : Nat) (h : Iv n s) : codeAny (model prog w) A (.compLoop (.ListComp elt [⟨target, iter, ifs, 0⟩] scope pos) 0 it acc env) R s := by
  refine codeAny_loop rfl Iv (fun n s hI => ?_) n h
  show wpAny _ A ((compTurn (.ListComp elt [⟨target, iter, ifs, 0⟩] scope pos) 0 it acc env).onRaise (fun x => do noteFrame x env; theTreesLotGoes x)) _ _ s
  refine wpAny_noted ?_
  rw [compTurn_list]
  have no : ∀ {P : Value → Shared → Prop} (e : Value) (s' : Shared), False → P e s' := fun _ _ z => z.elim
  refine wpAny_bind (wpAny_standAt (wpAny_bind (wpAny_mono (turn n s hI) (fun r s1 h1 => ?_) no)))
  cases r with
  | none => exact wpAny_pure h1
  | some v =>
    refine wpAny_bind (wpAny_mono h1 (fun _ s1' h1' => ?_) no)
    refine wpAny_bind (wpAny_mono h1' (fun _ s2 h2 => wpAny_bind (wpAny_mono h2 (fun ok s3 h3 => ?_) no)) no)
    cases ok with
    | false => exact wpAny_pure ⟨rfl, h3⟩
    | true => exact wpAny_bind (wpAny_bind (wpAny_mono h3 (fun x s4 h4 => wpAny_bind (wpAny_mono h4 (fun _ s5 h5 => wpAny_pure (wpAny_pure ⟨rfl, h5⟩)) no)) no))

section
variable {X : Cx} {elt tg iter : Expr} {ifs : List Expr} {scope : Scope} {cl : List (Str × Addr)} {N : List Str} {ρ : List (Option Nat)} {pos : Pos} {wi : TI} {g : TG} {tc : TT} {te : TE}


structure CompScope (X : Cx) (N : List Str) (ρ : List (Option Nat)) (scope : Scope) (cl : List (Str × Addr)) : Prop where
  clos : closureFor scope X.env = pure cl
  nocell : ∀ y ∈ scope.names, y.2 ≠ .cell
  kind : scope.kind = .function
  loc : ∀ y ∈ scope.names, y.2 = .local → scope.names.lookup y.1 = some .local
  sub : ∀ x c, cl.lookup x = some c → X.env.cells.lookup x = some c
  has : ∀ x, ((relabel scope X.env).names.lookup x = some .cell ∨ (relabel scope X.env).names.lookup x = some .free) → ∃ c, cl.lookup x = some c
  len : ρ.length = N.length
  from_ : ∀ (i j : Nat) (x : Str), N[i]? = some x → ρ[i]? = some (some j) → X.N[j]? = some x ∧ (X.env.kindOf x = some .cell ∨ X.env.kindOf x = some .free) ∧ ((relabel scope X.env).names.lookup x = some .cell ∨ (relabel scope X.env).names.lookup x = some .free)

theorem pick_get {ρ : List (Option Nat)} {σ : St} {i : Nat} {v : V} (h : (pick ρ σ)[i]? = some (some v)) : ∃ j, ρ[i]? = some (some j) ∧ σ[j]? = some (some v) := by
  unfold pick at h
  rw [List.getElem?_map] at h
  cases e : ρ[i]? with
  | none => rw [e] at h; cases h
  | some o =>
    rw [e] at h
    cases o with
    | none => cases h
    | some j =>
      refine ⟨j, rfl, ?_⟩
      simp only [Option.map_some, Option.bind_some, Option.some.injEq] at h
      cases e2 : σ[j]? with
      | none => rw [e2] at h; cases h
      | some w =>
        rw [e2] at h
        have h' : w = some v := h
        rw [h']

theorem inv_comp {pins : List (Addr × Obj)} {σ : St} {H : Hp} {s s' : Shared} {fp : List Addr} {h₁ : Heap} (S : CompScope X N ρ scope cl) (I : Inv X pins σ H s) (hf : ∀ b ∈ fp, FpOk X pins H b)
    (hlt : ∀ b ∈ fp, b < s.heap.objs.size) (hns : h₁.Ns s.heap.objs.size (fun _ => none)) (hsb : ∀ b o, s.heap.get? b = some o → h₁.get? b = some o) (es : s' = { s with heap := h₁ }) :
    Inv (cxComp X N scope cl s.heap.objs.size s H fp (X.pn ++ pins)) [] (pick ρ σ) H s' := by
  subst es
  have notStk : ∀ b, b ≠ X.env.locals → b ∉ X.fs → b ∉ frs X.stack := fun b h1 h2 hb => by
    rcases List.mem_cons.mp (I.stkSub b hb) with z | z
    · exact h1 z
    · exact h2 z
  have hC : X.env.locals ≠ s.heap.objs.size := Nat.ne_of_lt I.lt
  refine ⟨⟨I.ok.mod, S.kind, I.ok.glob, I.ok.blt, Nat.le_refl _, fun x y c h1 h2 => I.ok.inj x y c (S.sub x c h1) (S.sub y c h2), fun x hx => S.has x hx, fun x c hx _ => absurd (show false = true from hx) Bool.false_ne_true, I.ok.hd, I.ok.frames, .inl rfl,
    fun b hb => ⟨Nat.ne_of_lt (hlt b hb), fun x c h1 => (hf b hb).2.2.2.2.1 x c (S.sub x c h1)⟩, I.bs, Nat.le_trans I.ok.bsz I.sz, fun b o eo hb => ?_, fun b hb => notStk b (hf b hb).2.1 (hf b hb).2.2.1, I.stack, I.stkFree⟩,
    rfl, I.bare, Un.kept hsb, ⟨_, hns, fun i x v h1 h2 h3 => ?_⟩, fun x c h1 => ?_, I.hok.fresh (Nat.le_refl _), fun x c h1 => I.freeC x c (S.sub x c h1), fun p hp => ?_, I.hok.kept hsb, ?_⟩
  · rcases (hf b hb).2.2.2.1 with z | z
    · exact I.ok.noex b o eo z
    · exact absurd (Heap.lt_size (I.ok.bs b o eo).1) (Nat.not_lt.mpr z)
  · obtain ⟨j, hj, hv⟩ := pick_get h2
    obtain ⟨n1, n2, n3⟩ := S.from_ i j x h1 hj
    obtain ⟨m, hn, hl⟩ := I.loc
    have vis : Vis X.env.scope x := n2.elim (fun z => .inr (.inl z)) fun z => .inr (.inr z)
    obtain ⟨u, ru, lk⟩ := hl j x v n1 hv vis
    refine ⟨u, ru, .inr ⟨n3, ?_⟩⟩
    rcases lk with ⟨hk, _⟩ | ⟨_, c, hc, hcell⟩
    · rcases n2 with z | z
      · rw [z] at hk; cases hk
      · rw [z] at hk; cases hk
    · obtain ⟨c', hc'⟩ := S.has x n3
      have ec := S.sub x c' hc'
      rw [hc] at ec
      cases ec
      obtain ⟨o, ho, hd⟩ := hcell
      exact ⟨c, hc', o, hsb c o ho, hd⟩
  · obtain ⟨v, o, ho, hd⟩ := I.cell x c (S.sub x c h1)
    exact ⟨v, o, hsb c o ho, hd⟩
  · have hp' : p ∈ X.pn ++ pins := by simpa using hp
    obtain ⟨p1, p2, p3, p4, p5⟩ := I.pin p hp'
    exact ⟨hsb _ _ p1, p2, Nat.ne_of_lt (Heap.lt_size p1), notStk _ p3 p4, p5⟩
  · show (pick ρ σ).length = N.length
    unfold pick
    rw [List.length_map]
    exact S.len

theorem pe_comp (hc : X.calm = true) (S : CompScope X N ρ scope cl) (hi : PI X tg iter wi)
    (hg : ∀ C s₀ H₀ ex pn, PG (cxComp X N scope cl C s₀ H₀ ex pn) tg g) (ht : ∀ C s₀ H₀ ex pn, PTs (cxComp X N scope cl C s₀ H₀ ex pn) ifs tc) (he : ∀ C s₀ H₀ ex pn, PE (cxComp X N scope cl C s₀ H₀ ex pn) elt te)
    (hs : ∀ x, foldedSetIterable iter X.env x = pure x := by intro _; rfl) : PE X (.ListComp elt [⟨tg, iter, ifs, 0⟩] scope pos) (tComp ρ wi g tc te) := by
  intro pins s σ H Q I h
  rw [eval_ListComp]
  refine wpAny_comprehension_free (use := none) rfl hs S.clos S.kind S.loc (thn (hi pins s σ H _ I h) fun v s1 h1 => thn h1 fun itv s2 h2 => ?_)
  obtain ⟨it, fp, tn, J, H2, e, I2, T, st2, f2, q2⟩ := h2
  subst e
  obtain ⟨W, ⟨m0, w0⟩, turn⟩ := q2 _ (I2.hok.fresh (Nat.le_refl _))
  refine wpAny_newObj_type (wpAny_newFunctionEnv S.nocell (by intro y hy; simp at hy) (fun h₁ hns₁ hsb₁ => ?_) S.kind)
  dsimp only at hns₁ hsb₁ ⊢
  have I3 : Inv X pins σ (upd H2 s2.heap.objs.size (.lst [])) { s2 with heap := s2.heap.push { cls := .type "list", dict := none, data := .seq ([] : List Value).toArray } } :=
    I2.laid (t' := s2.toks) (fun b u eo => Heap.get?_push_of_some _ eo) (Nat.le_refl _) ⟨by simp, [], 0, .nil, Heap.get?_push_size _ rfl⟩
  generalize hs3 : ({ s2 with heap := s2.heap.push { cls := .type "list", dict := none, data := .seq ([] : List Value).toArray } } : Shared) = s3 at I3
  have es3 : s2.heap.push { cls := .type "list", dict := none, data := .seq ([] : List Value).toArray } = s3.heap := by rw [← hs3]
  rw [es3] at hns₁ hsb₁ ⊢
  have f3 : ∀ b ∈ fp, FpOk X pins (upd H2 s2.heap.objs.size (.lst [])) b := fun b hb => by
    obtain ⟨o, eo, _⟩ := T.obj _ _ st2 b hb
    exact ⟨by rw [upd_ne (Nat.ne_of_lt (Heap.lt_size eo))]; exact (f2 b hb).1, (f2 b hb).2⟩
  have lt3 : ∀ b ∈ fp, b < s3.heap.objs.size := fun b hb => by
    obtain ⟨o, eo, _⟩ := T.obj _ _ st2 b hb
    rw [← es3, Heap.size_push]
    exact Nat.lt_succ_of_lt (Heap.lt_size eo)
  have old : ∀ b o, s3.heap.get? b = some o → h₁.get? b = some o := fun b o eo => hsb₁.extBut b o (Nat.ne_of_lt (Heap.lt_size eo)) (Heap.get?_push_of_some _ eo)
  have Ic : Inv (cxComp X N scope cl s3.heap.objs.size s3 (upd H2 s2.heap.objs.size (.lst [])) fp (X.pn ++ pins)) [] (pick ρ σ) (upd H2 s2.heap.objs.size (.lst [])) { s2 with heap := h₁, toks := s2.toks + ([] : List (Str × Value)).length } :=
    inv_comp S I3 f3 lt3 hns₁ old (by rw [← hs3] <;> rfl)
  have stat : ∀ {pl : List (Addr × Obj)} {H' : Hp}, pl = [] → (∀ b ∈ fp, H' b = none) → ∀ b ∈ fp, FpOk (cxComp X N scope cl s3.heap.objs.size s3 (upd H2 s2.heap.objs.size (.lst [])) fp (X.pn ++ pins)) pl H' b := fun {pl H'} epl hn b hb => by
    subst epl
    refine ⟨hn b hb, Nat.ne_of_lt (lt3 b hb), fun z => ?_, .inl hb, fun x c h1 => (f2 b hb).2.2.2.2.1 x c (S.sub x c h1), fun p hp => (f2 b hb).2.2.2.2.2 p (by simpa using hp)⟩
    rcases List.mem_cons.mp (I3.stkSub b z) with z | z
    · exact (f2 b hb).2.1 z
    · exact (f2 b hb).2.2.1 z
  have st4 : tn 0 h₁ := T.keep _ _ _ st2 fun b hb o eo => old b o (by rw [← es3]; exact Heap.get?_push_of_some _ eo)
  have loop : codeAny (model X.prog X.w) X.A (.compLoop (.ListComp elt [⟨tg, iter, ifs, 0⟩] scope pos) 0 (.ref it) (.ref s2.heap.objs.size) (compEnvC scope cl s3.heap.objs.size X.env))
      (compPost (model X.prog X.w) X.A X.xe none (EP X pins σ Q) (.ref s2.heap.objs.size) s3.heap.objs.size) { s2 with heap := h₁, toks := s2.toks + ([] : List (Str × Value)).length } := by
    refine comp_loop (fun n s' => ∃ i ys τ H', Inv (cxComp X N scope cl s3.heap.objs.size s3 (upd H2 s2.heap.objs.size (.lst [])) fp (X.pn ++ pins)) [] τ H' s' ∧ tn i s'.heap ∧ (∀ b ∈ fp, H' b = none) ∧ W i n ys τ H') ?_ m0
      ⟨0, [], _, _, Ic, st4, fun b hb => (f3 b hb).1, w0⟩
    rintro n s4 ⟨i, ys, τ, H4, I4, st, fr4, w4⟩
    rcases turn i n ys τ H4 w4 with ⟨stop, qn⟩ | ⟨go, step⟩
    · refine thn (T.done (cxComp X N scope cl s3.heap.objs.size s3 (upd H2 s2.heap.objs.size (.lst [])) fp (X.pn ++ pins)) rfl rfl rfl hc i [] s4 τ H4 _ I4 (stat rfl fr4) st stop) fun r s5 ⟨hr, I5⟩ => ?_
      subst hr
      obtain ⟨m5, hn5, _⟩ := I5.loc
      refine ⟨m5, hn5, fun h' hs' => ?_⟩
      have ne : ∀ b, b < s3.heap.objs.size → b ≠ s3.heap.objs.size := fun b hb => Nat.ne_of_lt hb
      have get' : ∀ b o, b ≠ s3.heap.objs.size → s5.heap.get? b = some o → h'.get? b = some o := fun b o hb eo => (hs'.2 b hb).trans eo
      have un : Un (frs X.stack) fp (upd H2 s2.heap.objs.size (.lst [])) H4 s3.heap h' :=
        ⟨fun b o eo n1 n2 n3 => get' b o (ne b (Heap.lt_size eo)) (I5.base.keep b o eo n1 n2 n3), fun b o eo n1 n2 n3 => let ⟨sl, z⟩ := I5.base.slot b o eo n1 n2 n3; ⟨sl, get' b _ (ne b (Heap.lt_size eo)) z⟩,
          I5.base.free, fun b o eo n1 => let ⟨o', z⟩ := I5.base.there b o eo n1; ⟨o', get' b _ (ne b (Heap.lt_size eo)) z⟩, I5.base.tups, I5.base.frzs, I5.base.tbls⟩
      have hok : HOk X.prog X.w H4 h' := fun a o ea => (I5.hok a o ea).stay (fun b u hb eo => get' b u (fun z => by
        have fr : H4 s3.heap.objs.size = none := I5.free
        rcases hb with rfl | hb
        · rw [z, fr] at ea; cases ea
        · rw [z, fr] at hb; cases hb) eo) (fun _ z => z) fun _ _ z => z
      have I6 : Inv X pins σ H4 { s5 with heap := h' } := I3.call' (s' := { s5 with heap := h' }) (ch := fp) (show s5.os = s3.os from I5.os) un hok I5.bare fun b hb => (f3 b hb).2.2.2
          |> fun z => ⟨(f3 b hb).2.2.2.1, (f3 b hb).2.1, (f3 b hb).2.2.2.2.1, (f3 b hb).2.2.2.2.2⟩
      exact ⟨.ref s2.heap.objs.size, H4, I6, rfl, qn⟩
    · refine thn (T.item (cxComp X N scope cl s3.heap.objs.size s3 (upd H2 s2.heap.objs.size (.lst [])) fp (X.pn ++ pins)) rfl rfl rfl hc i [] s4 τ H4 _ I4 (stat rfl fr4) st go) fun r s5 ⟨u, hr, h5⟩ => ?_
      subst hr
      refine thn h5 fun _ s6 ⟨x, H6, I6, r6, y6, st6, fr6⟩ => ?_
      have I6' := I6.pinned (stat rfl fr6) (T.obj _ _ st6)
      have again : ∀ {s9 : Shared} {τ9 : St} {H9 : Hp} {zs : List V} {m' : Nat}, Inv (cxComp X N scope cl s3.heap.objs.size s3 (upd H2 s2.heap.objs.size (.lst [])) fp (X.pn ++ pins)) ([] ++ pinsAt fp s6.heap) τ9 H9 s9 → m' < n → W (i + 1) m' zs τ9 H9 →
          ∃ m, m < n ∧ ∃ i ys τ H', Inv (cxComp X N scope cl s3.heap.objs.size s3 (upd H2 s2.heap.objs.size (.lst [])) fp (X.pn ++ pins)) [] τ H' s9 ∧ tn i s9.heap ∧ (∀ b ∈ fp, H' b = none) ∧ W i m ys τ H' := fun {s9 τ9 H9 zs m'} I9 hm w9 => by
        refine ⟨m', hm, i + 1, zs, τ9, H9, I9.unpinned, T.keep _ _ _ st6 fun b hb o eo => (I9.pin (b, o) (List.mem_append_right _ (List.mem_append_right _ (mem_pinsAt hb eo)))).1, fun b hb => ?_, w9⟩
        obtain ⟨o, eo, d⟩ := T.obj _ _ st6 b hb
        exact (I9.pin (b, o) (List.mem_append_right _ (List.mem_append_right _ (mem_pinsAt hb eo)))).2.1
      refine thn (hg _ _ _ _ _ _ s6 τ H6 x u _ I6' r6 (step x H6 y6)) fun _ s7 ⟨τ7, H7, I7, q7⟩ => ?_
      refine thn (ht _ _ _ _ _ _ s7 τ7 H7 _ I7 q7) fun ok s8 ⟨H8, I8, q8⟩ => ?_
      cases ok with
      | false =>
        rw [if_neg Bool.false_ne_true] at q8 ⊢
        obtain ⟨m', hm, w9⟩ := q8
        exact again I8 hm w9
      | true =>
        rw [if_pos rfl] at q8 ⊢
        refine thn (he _ _ _ _ _ _ s8 τ7 H8 _ I8 q8) fun y s9 ⟨z, H9, I9, r9, hl9, hz9, m', hm, w9⟩ => ?_
        refine thn (mt_append _ s9 τ7 H9 (.ref s2.heap.objs.size) [z] (.ref s2.heap.objs.size) [y] (fun _ H' => H' = upd H9 s2.heap.objs.size (.lst (ys ++ [z]))) I9 rfl (.cons r9 .nil) ⟨_, ys, z, rfl, rfl, hl9, hz9, rfl⟩) fun _ s10 ⟨_, H10, I10, _, e10⟩ => ?_
        subst e10
        exact again I10 hm w9
  exact codeAny_compStart_list loop (T.self _ 0 _ _ _ st4 loop)
end
end L2


set_option linter.all false
set_option maxRecDepth 100000
set_option maxHeartbeats 4000000
namespace L2
open PySem PySem.Spec PyProof.Rows

theorem CompScope.plain {X : Cx} {N : List Str} {ρ : List (Option Nat)} {scope : Scope} (hk : scope.kind = .function) (hn : ∀ y ∈ scope.names, y.2 ≠ .cell ∧ y.2 ≠ .free)
    (hl : ∀ y ∈ scope.names, y.2 = .local → scope.names.lookup y.1 = some .local) (hlen : ρ.length = N.length) (hρ : ∀ o ∈ ρ, o = none) : CompScope X N ρ scope [] := by
  have hre : (relabel scope X.env).names = scope.names := by
    unfold relabel
    refine map_eq_self fun y hy => ?_
    obtain ⟨n, k⟩ := y
    have hf : (k == NameKind.free) = false := by
      have := (hn _ hy).2
      cases k <;> first | rfl | exact absurd rfl this
    show (if (k == NameKind.free && X.env.scope.kind == .function && X.env.kindOf n == some .cell) = true then (n, NameKind.cell) else (n, k)) = (n, k)
    rw [hf]
    rfl
  refine ⟨closureFor_none fun y hy => (hn y hy).2, fun y hy => (hn y hy).1, hk, hl, fun x c h => (by cases h), fun x h => ?_, hlen, fun i j x _ h => ?_⟩
  · rw [hre] at h
    rcases h with h | h
    · exact absurd rfl (hn _ (PySem.mem_of_lookup h)).1
    · exact absurd rfl (hn _ (PySem.mem_of_lookup h)).2
  · have := hρ _ (List.mem_of_getElem? h)
    cases this


end L2


set_option linter.all false
set_option maxRecDepth 100000
set_option maxHeartbeats 4000000
namespace L2
open PySem PySem.Spec PyProof.Rows

def closL (cs : List (Str × Addr)) : List (Str × NameKind) → List (Str × Addr) → List (Str × Addr)
  | [], acc => acc
  | y :: r, acc => closL cs r (if y.2 == .free then (y.1, (cs.lookup y.1).getD 0) :: acc else acc)
theorem closL_val (cs : List (Str × Addr)) : ∀ (names : List (Str × NameKind)) (acc : List (Str × Addr)), (∀ p ∈ acc, p.2 = (cs.lookup p.1).getD 0) → ∀ p ∈ closL cs names acc, p.2 = (cs.lookup p.1).getD 0
  | [], acc, h => h
  | y :: r, acc, h => by
    unfold closL
    refine closL_val cs r _ ?_
    split
    · intro p hp
      rcases List.mem_cons.mp hp with rfl | hp
      · rfl
      · exact h p hp
    · exact h
theorem closL_mem (cs : List (Str × Addr)) : ∀ (names : List (Str × NameKind)) (acc : List (Str × Addr)), ∀ p ∈ closL cs names acc, p ∈ acc ∨ ∃ y ∈ names, y.1 = p.1 ∧ y.2 = .free
  | [], acc, p, hp => .inl hp
  | y :: r, acc, p, hp => by
    unfold closL at hp
    rcases closL_mem cs r _ p hp with h | ⟨z, hz, h⟩
    · split at h
      · rename_i hy
        rcases List.mem_cons.mp h with rfl | h
        · refine .inr ⟨y, List.mem_cons_self, rfl, ?_⟩
          cases hk : y.2 <;> rw [hk] at hy <;> first | rfl | cases hy
        · exact .inl h
      · exact .inl h
    · exact .inr ⟨z, List.mem_cons_of_mem _ hz, h⟩
theorem closL_acc (cs : List (Str × Addr)) : ∀ (names : List (Str × NameKind)) (acc : List (Str × Addr)), ∀ p ∈ acc, p ∈ closL cs names acc
  | [], acc, p, hp => hp
  | y :: r, acc, p, hp => by
    unfold closL
    refine closL_acc cs r _ p ?_
    split
    · exact List.mem_cons_of_mem _ hp
    · exact hp
theorem closL_has (cs : List (Str × Addr)) : ∀ (names : List (Str × NameKind)) (acc : List (Str × Addr)), ∀ y ∈ names, y.2 = .free → (y.1, (cs.lookup y.1).getD 0) ∈ closL cs names acc
  | [], acc, y, hy, _ => absurd hy (by simp)
  | z :: r, acc, y, hy, hf => by
    unfold closL
    rcases List.mem_cons.mp hy with rfl | hy
    · refine closL_acc cs r _ _ ?_
      rw [if_pos (by rw [hf]; rfl)]
      exact List.mem_cons_self
    · exact closL_has cs r _ y hy hf
theorem lookup_of_mem : ∀ {l : List (Str × Addr)} {x : Str} {c : Addr}, (x, c) ∈ l → ∃ d, l.lookup x = some d
  | [], _, _, h => absurd h (by simp)
  | (n, k) :: r, x, c, h => by
    rw [List.lookup_cons]
    cases hx : x == n with
    | true => exact ⟨k, rfl⟩
    | false =>
      rcases List.mem_cons.mp h with e | h
      · cases e; simp at hx
      · exact lookup_of_mem h
theorem closureFor_of {scope : Scope} {env : Env} (h : ∀ y ∈ scope.names, y.2 = .free → ∃ c, env.cells.lookup y.1 = some c) : closureFor scope env = pure (closL env.cells scope.names []) := by
  have go : ∀ (names : List (Str × NameKind)) (acc : List (Str × Addr)), (∀ y ∈ names, y.2 = .free → ∃ c, env.cells.lookup y.1 = some c) →
      (forIn (m := Sem) names acc (fun x r => if (x.2 == NameKind.free) = true then do let c ← cellOf env x.1; pure (ForInStep.yield ((x.1, c) :: r)) else pure (ForInStep.yield r))) = pure (closL env.cells names acc) := by
    intro names
    induction names with
    | nil => intro acc _; rfl
    | cons y r ih =>
      intro acc hy
      rw [List.forIn_cons]
      unfold closL
      by_cases hf : (y.2 == NameKind.free) = true
      · have hf' : y.2 = .free := by cases hk : y.2 <;> rw [hk] at hf <;> first | rfl | cases hf
        obtain ⟨c, hc⟩ := hy y List.mem_cons_self hf'
        have e : cellOf env y.1 = pure c := by unfold cellOf; rw [hc]
        rw [if_pos hf, if_pos hf, e, pure_bind, pure_bind, hc]
        exact ih _ fun z hz => hy z (List.mem_cons_of_mem _ hz)
      · rw [if_neg hf, if_neg hf, pure_bind]
        exact ih _ fun z hz => hy z (List.mem_cons_of_mem _ hz)
  have h2 := go scope.names [] h
  simp only [closureFor]
  refine Eq.trans (congrArg (· >>= _) ?_) (by rw [pure_bind])
  exact h2
theorem lookup_relab (g : Str → NameKind → NameKind) : ∀ (l : List (Str × NameKind)) (x : Str), (l.map fun y => (y.1, g y.1 y.2)).lookup x = (l.lookup x).map (g x)
  | [], _ => rfl
  | (n, k) :: r, x => by
    rw [List.map_cons, List.lookup_cons, List.lookup_cons]
    cases hx : x == n with
    | true =>
      have e : x = n := by simpa using hx
      subst e
      rfl
    | false => exact lookup_relab g r x
theorem relabel_lookup (scope : Scope) (env : Env) (x : Str) : (relabel scope env).names.lookup x = (scope.names.lookup x).map fun k => if (k == NameKind.free && env.scope.kind == .function && env.kindOf x == some .cell) = true then .cell else k := by
  rw [← lookup_relab (fun n k => if (k == NameKind.free && env.scope.kind == .function && env.kindOf n == some .cell) = true then .cell else k)]
  unfold relabel
  congr 1
  refine List.map_congr_left fun y _ => ?_
  obtain ⟨n, k⟩ := y
  show (if (k == NameKind.free && env.scope.kind == .function && env.kindOf n == some .cell) = true then (n, NameKind.cell) else (n, k)) = _
  dsimp only
  split <;> rfl

def fromOk (N : List Str) (ρ : List (Option Nat)) (XN : List Str) (dn sn : List (Str × NameKind)) : Bool :=
  (N.zip ρ).all fun p => match p.2 with
    | none => true
    | some j => decide (XN[j]? = some p.1) && decide (dn.lookup p.1 = some .cell) && decide (sn.lookup p.1 = some .free)
theorem CompScope.closes {X : Cx} {N : List Str} {ρ : List (Option Nat)} {scope : Scope} (XN : List Str) (dn : List (Str × NameKind)) (hXN : X.N = XN) (hdn : X.env.scope.names = dn) (hk : scope.kind = .function) (hX : X.env.scope.kind = .function) (hn : ∀ y ∈ scope.names, y.2 ≠ .cell)
    (hfree : ∀ y ∈ scope.names, y.2 = .free → dn.lookup y.1 = some .cell) (hcell : ∀ x, X.env.scope.names.lookup x = some .cell → ∃ c, X.env.cells.lookup x = some c) (hl : ∀ y ∈ scope.names, y.2 = .local → scope.names.lookup y.1 = some .local) (hlen : ρ.length = N.length)
    (hfrom : fromOk N ρ XN dn scope.names = true) : CompScope X N ρ scope (closL X.env.cells scope.names []) := by
  subst hXN hdn
  have kd : ∀ x, X.env.kindOf x = X.env.scope.names.lookup x := fun _ => rfl
  refine ⟨closureFor_of fun y hy hf => hcell _ (hfree y hy hf), hn, hk, hl, fun x c h => ?_, fun x h => ?_, hlen, fun i j x h1 h2 => ?_⟩
  · have hm := PySem.mem_of_lookup h
    have hv := closL_val X.env.cells scope.names [] (fun p hp => absurd hp (by simp)) _ hm
    rcases closL_mem X.env.cells scope.names [] _ hm with z | ⟨y, hy, e1, e2⟩
    · exact absurd z (by simp)
    · obtain ⟨d, hd⟩ := hcell _ (hfree y hy e2)
      have e1' : y.1 = x := e1
      rw [e1'] at hd
      have hv' : c = (X.env.cells.lookup x).getD 0 := hv
      rw [hd] at hv'
      rw [hd, hv']; rfl
  · rw [relabel_lookup] at h
    have hfr : scope.names.lookup x = some .free := by
      cases e : scope.names.lookup x with
      | none => rw [e] at h; rcases h with h | h <;> cases h
      | some k =>
        rw [e] at h
        cases k with
        | free => rfl
        | cell => exact absurd rfl (hn _ (PySem.mem_of_lookup e))
        | _ => rcases h with h | h <;> cases h
    exact lookup_of_mem (closL_has X.env.cells scope.names [] _ (PySem.mem_of_lookup hfr) rfl)
  · unfold fromOk at hfrom
    rw [List.all_eq_true] at hfrom
    have hm : (x, some j) ∈ N.zip ρ := by
      refine List.mem_of_getElem? (i := i) ?_
      rw [List.getElem?_zip_eq_some]
      exact ⟨h1, h2⟩
    have h3 := hfrom _ hm
    simp only [Bool.and_eq_true, decide_eq_true_eq] at h3
    obtain ⟨⟨a1, a2⟩, a3⟩ := h3
    refine ⟨a1, .inl (by rw [kd]; exact a2), .inl ?_⟩
    rw [relabel_lookup, a3, kd, a2, hX]
    rfl


end L2


set_option linter.all false
set_option maxRecDepth 100000
set_option maxHeartbeats 4000000
namespace L2
open PySem PySem.Spec PyProof.Rows
section
variable {X : Cx}
def clsV : V → Option Value
  | .ty n => some (.type n)
  | .ref a => some (.ref a)
  | _ => none
theorem clsV_rel {c : V} {u w : Value} (h : clsV c = some u) (r : RelV c w) : w = u := by
  cases c with
  | ty n => cases h; exact r
  | ref a => cases h; exact r
  | _ => cases h
theorem call_isi : CallR X (.builtin "isinstance") (fun xs H Q => ∃ x c t u b, xs = [x, c] ∧ TyOf X.K H x t ∧ clsV c = some u ∧ PySem.W.kitOne X.K t u = some b ∧ Q (.bl b) H) := by
  intro pins s σ H xs us Q I r h
  obtain ⟨x, c, t, u, b, rfl, ty, rc, e, q⟩ := h
  obtain ⟨v, w, rfl, rv, rw'⟩ := vals2 r
  have eu : w = u := clsV_rel rc rw'
  subst eu
  exact isinst_ok I rv ty e fun tk => ⟨.bl b, H, I.tok tk, rfl, q⟩
end



def plainH : HO → Bool
  | .dT _ => false
  | .frz _ (.dT _) => true
  | .frz _ u => plainH u
  | _ => true
section
variable {X : Cx} {pins : List (Addr × Obj)} {σ : St} {H H' : Hp} {s s' : Shared}
def Plain (H : Hp) : Prop := ∀ a o, H a = some o → plainH o = true
theorem Plain.upd {H : Hp} {a : Addr} {o : HO} (h : Plain H) (ho : plainH o = true) : Plain (upd H a o) := fun b u e => by
  by_cases hb : b = a
  · subst hb; rw [upd_same] at e; cases e; exact ho
  · rw [upd_ne hb] at e; exact h b u e

end
end L2


set_option linter.all false
set_option maxRecDepth 100000
set_option maxHeartbeats 4000000
namespace L2
open PySem PySem.Spec PyProof.Rows

structure ExcAt (K : PySem.W.Frag) (C : Addr) : Prop where
  ga : PySem.W.findIn K (.ref C) "__getattribute__" = some (some (.builtin "BaseException.__getattribute__"))
  gt : PySem.W.findIn K (.ref C) "__getattr__" = some none
  cl : PySem.W.findIn K (.ref C) "__class__" = some (some (.builtin "object.__class__"))
  mb : PySem.W.mroIn K C (.type "BaseException") = some true
  mo : PySem.W.mroIn K C (.type "object") = some true
  gs : PySem.W.specialIn K (.builtin "object.__class__") "__get__" = some (some (.builtin "getset_descriptor.__get__"))
  tk : PySem.W.takesIn K (.builtin "object.__class__") = some true
section
variable {prog : Program} {w : World} {A : Around} {E : Value → Shared → Prop} {s : Shared} {K : PySem.W.Frag} {e C : Addr}
end
section
variable {X : Cx}

end
end L2


set_option linter.all false
set_option maxRecDepth 100000
set_option maxHeartbeats 4000000
namespace L2
open PySem PySem.Spec PyProof.Rows
section
variable {X : Cx} (K : PySem.W.Frag) (hK : X.K = K)
include hK
theorem ix_listK : IxR X (rIxL K) := by subst hK; exact ix_list
theorem sl_listK : SlR X (rSlL K) := by subst hK; exact sl_list
theorem op_in_seqK : OpR X (compareOp .In) (rIn K false) := by subst hK; exact op_in_seq
theorem call_len_seqK : CallR X (.builtin "len") (fun xs H Q => ∃ p ys, xs = [.ref p] ∧ (SqL K H p ys ∨ SqT K H p ys) ∧ Q (.int ys.length) H) := by subst hK; exact call_len_seq
theorem call_list_ofK : CallR X (.type "list") (fun xs H Q => ∃ p ys, xs = [.ref p] ∧ (SqL K H p ys ∨ SqT K H p ys) ∧ ∀ l, H l = none → Q (.ref l) (upd H l (.lst ys))) := by subst hK; exact call_list_of
theorem call_isiK : CallR X (.builtin "isinstance") (fun xs H Q => ∃ x c t u b, xs = [x, c] ∧ TyOf K H x t ∧ clsV c = some u ∧ PySem.W.kitOne K t u = some b ∧ Q (.bl b) H) := by subst hK; exact call_isi
theorem pi_listK {tg l : Expr} {tl : TE} (hl : PE X l tl) : PI X tg l (iList K tl) := by subst hK; exact pi_list hl
variable {o e : Expr} {es : List Expr} {to : TE} {t : TA} {name : Str} {apos cpos : Pos} {T id : String} {r : V → List V → Hp → VK → Prop}
theorem pe_bmK (pa : PlainAttrs T) (slot : Slot T name id) (hty : typeOf (.builtin id) = pure (.type "method_descriptor")) (hm : MtR X id r) (ho : PE X o to) (ha : PA X (e :: es) t)
    (hbase : attributeBase o name X.env (eval o X.env) = eval o X.env := by rfl)
    (hfew : ((backTo cpos (starEach (e :: es) X.env)).all (fun x => !x.1) && (backToKw cpos (keywordEach [] X.env)).all (fun x => x.1.isSome)
      && decide ((e :: es).length + ([] : List Keyword).length + (if ([] : List Keyword).isEmpty then 0 else 1) < 30)) = true := by rfl)
    (hline : (apos.endLine == cpos.line) = true := by rfl) (hs : starEach (e :: es) X.env = (false, eval e X.env) :: starEach es X.env := by rfl) (hplain : (backTo cpos (starEach es X.env)).any (·.1) = false := by rfl) :
    PE X (.Call (.Attribute o name apos) (e :: es) [] cpos) (tBM K T r to t) := by
  subst hK; exact pe_bm pa slot hty hm ho ha hbase hfew hline hs hplain
end
end L2


set_option linter.all false
namespace L2
open PySem PySem.Spec PyProof.Rows
inductive Ex1 {α : Type} (p : α → Prop) : Prop
  | mk (a0 : α) : p a0 → Ex1 p
inductive Ex2 {α β : Type} (p : α → β → Prop) : Prop
  | mk (a0 : α) (a1 : β) : p a0 a1 → Ex2 p
inductive Ex3 {α β γ : Type} (p : α → β → γ → Prop) : Prop
  | mk (a0 : α) (a1 : β) (a2 : γ) : p a0 a1 a2 → Ex3 p
inductive Ex4 {α β γ δ : Type} (p : α → β → γ → δ → Prop) : Prop
  | mk (a0 : α) (a1 : β) (a2 : γ) (a3 : δ) : p a0 a1 a2 a3 → Ex4 p
inductive Ex5 {α β γ δ ε : Type} (p : α → β → γ → δ → ε → Prop) : Prop
  | mk (a0 : α) (a1 : β) (a2 : γ) (a3 : δ) (a4 : ε) : p a0 a1 a2 a3 a4 → Ex5 p
inductive Ex6 {α β γ δ ε ζ : Type} (p : α → β → γ → δ → ε → ζ → Prop) : Prop
  | mk (a0 : α) (a1 : β) (a2 : γ) (a3 : δ) (a4 : ε) (a5 : ζ) : p a0 a1 a2 a3 a4 a5 → Ex6 p
inductive Ex7 {α β γ δ ε ζ η : Type} (p : α → β → γ → δ → ε → ζ → η → Prop) : Prop
  | mk (a0 : α) (a1 : β) (a2 : γ) (a3 : δ) (a4 : ε) (a5 : ζ) (a6 : η) : p a0 a1 a2 a3 a4 a5 a6 → Ex7 p
inductive Ex8 {α β γ δ ε ζ η θ : Type} (p : α → β → γ → δ → ε → ζ → η → θ → Prop) : Prop
  | mk (a0 : α) (a1 : β) (a2 : γ) (a3 : δ) (a4 : ε) (a5 : ζ) (a6 : η) (a7 : θ) : p a0 a1 a2 a3 a4 a5 a6 a7 → Ex8 p
inductive Ex9 {α β γ δ ε ζ η θ ι : Type} (p : α → β → γ → δ → ε → ζ → η → θ → ι → Prop) : Prop
  | mk (a0 : α) (a1 : β) (a2 : γ) (a3 : δ) (a4 : ε) (a5 : ζ) (a6 : η) (a7 : θ) (a8 : ι) : p a0 a1 a2 a3 a4 a5 a6 a7 a8 → Ex9 p
inductive Ex10 {α β γ δ ε ζ η θ ι κ : Type} (p : α → β → γ → δ → ε → ζ → η → θ → ι → κ → Prop) : Prop
  | mk (a0 : α) (a1 : β) (a2 : γ) (a3 : δ) (a4 : ε) (a5 : ζ) (a6 : η) (a7 : θ) (a8 : ι) (a9 : κ) : p a0 a1 a2 a3 a4 a5 a6 a7 a8 a9 → Ex10 p
inductive Ex11 {α β γ δ ε ζ η θ ι κ μ : Type} (p : α → β → γ → δ → ε → ζ → η → θ → ι → κ → μ → Prop) : Prop
  | mk (a0 : α) (a1 : β) (a2 : γ) (a3 : δ) (a4 : ε) (a5 : ζ) (a6 : η) (a7 : θ) (a8 : ι) (a9 : κ) (a10 : μ) : p a0 a1 a2 a3 a4 a5 a6 a7 a8 a9 a10 → Ex11 p
inductive Ex12 {α β γ δ ε ζ η θ ι κ μ ν : Type} (p : α → β → γ → δ → ε → ζ → η → θ → ι → κ → μ → ν → Prop) : Prop
  | mk (a0 : α) (a1 : β) (a2 : γ) (a3 : δ) (a4 : ε) (a5 : ζ) (a6 : η) (a7 : θ) (a8 : ι) (a9 : κ) (a10 : μ) (a11 : ν) : p a0 a1 a2 a3 a4 a5 a6 a7 a8 a9 a10 a11 → Ex12 p
inductive Ex13 {α β γ δ ε ζ η θ ι κ μ ν ξ : Type} (p : α → β → γ → δ → ε → ζ → η → θ → ι → κ → μ → ν → ξ → Prop) : Prop
  | mk (a0 : α) (a1 : β) (a2 : γ) (a3 : δ) (a4 : ε) (a5 : ζ) (a6 : η) (a7 : θ) (a8 : ι) (a9 : κ) (a10 : μ) (a11 : ν) (a12 : ξ) : p a0 a1 a2 a3 a4 a5 a6 a7 a8 a9 a10 a11 a12 → Ex13 p
inductive Ex14 {α β γ δ ε ζ η θ ι κ μ ν ξ ο : Type} (p : α → β → γ → δ → ε → ζ → η → θ → ι → κ → μ → ν → ξ → ο → Prop) : Prop
  | mk (a0 : α) (a1 : β) (a2 : γ) (a3 : δ) (a4 : ε) (a5 : ζ) (a6 : η) (a7 : θ) (a8 : ι) (a9 : κ) (a10 : μ) (a11 : ν) (a12 : ξ) (a13 : ο) : p a0 a1 a2 a3 a4 a5 a6 a7 a8 a9 a10 a11 a12 a13 → Ex14 p
inductive An3 (a0 a1 a2 : Prop) : Prop
  | mk : a0 → a1 → a2 → An3 a0 a1 a2
inductive An4 (a0 a1 a2 a3 : Prop) : Prop
  | mk : a0 → a1 → a2 → a3 → An4 a0 a1 a2 a3
inductive An5 (a0 a1 a2 a3 a4 : Prop) : Prop
  | mk : a0 → a1 → a2 → a3 → a4 → An5 a0 a1 a2 a3 a4
inductive An6 (a0 a1 a2 a3 a4 a5 : Prop) : Prop
  | mk : a0 → a1 → a2 → a3 → a4 → a5 → An6 a0 a1 a2 a3 a4 a5
inductive An7 (a0 a1 a2 a3 a4 a5 a6 : Prop) : Prop
  | mk : a0 → a1 → a2 → a3 → a4 → a5 → a6 → An7 a0 a1 a2 a3 a4 a5 a6
inductive An8 (a0 a1 a2 a3 a4 a5 a6 a7 : Prop) : Prop
  | mk : a0 → a1 → a2 → a3 → a4 → a5 → a6 → a7 → An8 a0 a1 a2 a3 a4 a5 a6 a7
inductive An9 (a0 a1 a2 a3 a4 a5 a6 a7 a8 : Prop) : Prop
  | mk : a0 → a1 → a2 → a3 → a4 → a5 → a6 → a7 → a8 → An9 a0 a1 a2 a3 a4 a5 a6 a7 a8
inductive An10 (a0 a1 a2 a3 a4 a5 a6 a7 a8 a9 : Prop) : Prop
  | mk : a0 → a1 → a2 → a3 → a4 → a5 → a6 → a7 → a8 → a9 → An10 a0 a1 a2 a3 a4 a5 a6 a7 a8 a9
inductive An11 (a0 a1 a2 a3 a4 a5 a6 a7 a8 a9 a10 : Prop) : Prop
  | mk : a0 → a1 → a2 → a3 → a4 → a5 → a6 → a7 → a8 → a9 → a10 → An11 a0 a1 a2 a3 a4 a5 a6 a7 a8 a9 a10
inductive An12 (a0 a1 a2 a3 a4 a5 a6 a7 a8 a9 a10 a11 : Prop) : Prop
  | mk : a0 → a1 → a2 → a3 → a4 → a5 → a6 → a7 → a8 → a9 → a10 → a11 → An12 a0 a1 a2 a3 a4 a5 a6 a7 a8 a9 a10 a11
inductive An13 (a0 a1 a2 a3 a4 a5 a6 a7 a8 a9 a10 a11 a12 : Prop) : Prop
  | mk : a0 → a1 → a2 → a3 → a4 → a5 → a6 → a7 → a8 → a9 → a10 → a11 → a12 → An13 a0 a1 a2 a3 a4 a5 a6 a7 a8 a9 a10 a11 a12
inductive An14 (a0 a1 a2 a3 a4 a5 a6 a7 a8 a9 a10 a11 a12 a13 : Prop) : Prop
  | mk : a0 → a1 → a2 → a3 → a4 → a5 → a6 → a7 → a8 → a9 → a10 → a11 → a12 → a13 → An14 a0 a1 a2 a3 a4 a5 a6 a7 a8 a9 a10 a11 a12 a13
inductive An15 (a0 a1 a2 a3 a4 a5 a6 a7 a8 a9 a10 a11 a12 a13 a14 : Prop) : Prop
  | mk : a0 → a1 → a2 → a3 → a4 → a5 → a6 → a7 → a8 → a9 → a10 → a11 → a12 → a13 → a14 → An15 a0 a1 a2 a3 a4 a5 a6 a7 a8 a9 a10 a11 a12 a13 a14
inductive An16 (a0 a1 a2 a3 a4 a5 a6 a7 a8 a9 a10 a11 a12 a13 a14 a15 : Prop) : Prop
  | mk : a0 → a1 → a2 → a3 → a4 → a5 → a6 → a7 → a8 → a9 → a10 → a11 → a12 → a13 → a14 → a15 → An16 a0 a1 a2 a3 a4 a5 a6 a7 a8 a9 a10 a11 a12 a13 a14 a15
end L2


set_option linter.all false
set_option maxRecDepth 100000
set_option maxHeartbeats 4000000
namespace L2
open PySem PySem.Spec PyProof.Rows
section
variable {P : Program} {w : World} {K : PySem.W.Frag} {mg : Str → Option Value} {base : Heap}

end

structure Used (P : Program) (w : World) (K : PySem.W.Frag) (mg : Str → Option Value) (CX : CXT) (k : Nat) (x : Str) (ps : List Str) (sp : Sp) : Prop where
  ok : ∃ f fd, (∀ base, FnOk P w K mg base CX k f fd ps sp) ∧ mg x = some (.ref f) ∧ PySem.W.keepIn K (.ref f) = true ∧ Binds K fd ps []

theorem Same.upd {H : Hp} {p : Addr} {o : HO} (h : H p = none) : Same H (upd H p o) := fun b u e => by rw [upd_ne (ne_of_none e h)]; exact e

theorem Same.put {H H' : Hp} {p : Addr} {o : HO} (s : Same H H') (h : H p = none) : Same H (L2.upd H' p o) := fun b u e => by rw [upd_ne (ne_of_none e h)]; exact s b u e
theorem comp_by {J : It} {g : TG} {tc : TT} {te : TE} {Q : VK} {l : Addr} {τ : St} {H1 : Hp} (n : Nat) (W : Nat → List V → St → Hp → Prop) (h0 : W 0 [] τ (upd H1 l (.lst [])))
    (hgo : ∀ i ys τ H (N : List V → St → Hp → Prop), i < n → W i ys τ H → (∀ ys τ H, W (i + 1) ys τ H → N ys τ H) → J.go i H ∧ ∀ x H3, J.yld i H x H3 → g x τ H3 fun τ4 H4 => tc τ4 H4 fun b H5 =>
      if b = true then te τ4 H5 fun y H6 => H6 l = some (.lst ys) ∧ ys.length < sizeLine ∧ N (ys ++ [y]) τ4 (upd H6 l (.lst (ys ++ [y]))) else N ys τ4 H5)
    (hst : ∀ ys τ H, W n ys τ H → J.stop n H ∧ Q (.ref l) H) : CompOk J g tc te Q l τ H1 := by
  refine ⟨fun i m ys τ H => m = n - i ∧ i ≤ n ∧ W i ys τ H, ⟨n, by simp, Nat.zero_le _, h0⟩, ?_⟩
  rintro i m ys τ H ⟨rfl, hi, w⟩
  by_cases hlt : i < n
  · exact .inr (hgo i ys τ H (fun ys τ H => ∃ m', m' < n - i ∧ m' = n - (i + 1) ∧ i + 1 ≤ n ∧ W (i + 1) ys τ H) hlt w fun ys τ H h => ⟨n - (i + 1), by omega, rfl, hlt, h⟩)
  · have ei : i = n := by omega
    subst ei
    exact .inl (hst ys τ H w)

def GivesN (J : It) (n : Nat) (H : Hp) (item : Nat → V → Prop) : Prop := ∀ i H', Same H H' → (i < n → J.go i H' ∧ ∀ x H3, J.yld i H' x H3 → H3 = H' ∧ item i x) ∧ J.stop n H'
theorem gives_list {K : PySem.W.Frag} {a : Addr} {xs : List V} {H : Hp} (h : SqL K H a xs) : GivesN (Itl K a) xs.length H fun i x => xs[i]? = some x := fun i H' s => by
  have h' := s.seq h
  exact ⟨fun hi => ⟨⟨xs, xs[i], h', by simp [hi]⟩, fun x H3 y => ⟨y.1, y.2 xs h'⟩⟩, ⟨xs, h', Nat.le_refl _⟩⟩
theorem gives_range {lo : Int} {n : Nat} {H : Hp} : GivesN (Itr lo n) n H fun i x => x = .int (lo + i) := fun i H' s =>
  ⟨fun hi => ⟨hi, fun x H3 y => y⟩, Nat.le_refl _⟩
theorem comp_filter {J : It} {n : Nat} {item : Nat → V → Prop} {tc : TT} {te : TE} {Q : VK} {H : Hp} {l : Addr} {τ : St} {g : TG} (p : Nat → Bool) (f : Nat → V) (hJ : GivesN J n H item)
    (hl : H l = none) (hz : n ≤ sizeLine) (keep : St → Prop) (hk0 : keep τ)
    (ht : ∀ (τ' : St) (k : Nat) (x : V) (H' : Hp) (Q1 : St → VK) (Q2 : St → Hp → Prop), keep τ' → item k x → k < n → Same H H' → (∀ τ4, keep τ4 → p k = true → Q1 τ4 (f k) H') → (∀ τ4, keep τ4 → p k = false → Q2 τ4 H') →
      g x τ' H' fun τ4 H4 => tc τ4 H4 fun b H5 => if b = true then te τ4 H5 (Q1 τ4) else Q2 τ4 H5)
    (hq : Q (.ref l) (upd H l (.lst (((List.range n).filter p).map f)))) : CompOk J g tc te Q l τ H := by
  refine comp_by n (fun i ys τ' H2 => i ≤ n ∧ ys = ((List.range i).filter p).map f ∧ keep τ' ∧ H2 = upd H l (.lst ys)) ⟨Nat.zero_le _, rfl, hk0, rfl⟩ ?_ ?_
  · rintro i ys τ' H2 N hlt ⟨hi, rfl, hk, rfl⟩ hN
    have hs : Same H (upd H l (.lst (((List.range i).filter p).map f))) := Same.upd hl
    obtain ⟨hgo, _⟩ := hJ i _ hs
    obtain ⟨h1, h2⟩ := hgo hlt
    refine ⟨h1, fun x H3 hy => ?_⟩
    obtain ⟨e, it⟩ := h2 x H3 hy
    subst e
    have rs : (List.range (i + 1)).filter p = (List.range i).filter p ++ (if p i = true then [i] else []) := by
      rw [List.range_succ, List.filter_append]
      congr 1
      cases hpi : p i <;> simp [hpi]
    refine ht τ' i x _ (fun τ4 y H6 => H6 l = some (.lst (((List.range i).filter p).map f)) ∧ (((List.range i).filter p).map f).length < sizeLine ∧ N (((List.range i).filter p).map f ++ [y]) τ4 (upd H6 l (.lst (((List.range i).filter p).map f ++ [y]))))
      (fun τ4 H5 => N (((List.range i).filter p).map f) τ4 H5) hk it hlt hs (fun τ4 k4 e => ?_) fun τ4 k4 e => ?_
    · rw [e, if_pos rfl] at rs
      have h3 : ((List.range i).filter p).length ≤ i := by
        have := List.length_filter_le p (List.range i)
        rwa [List.length_range] at this
      refine ⟨upd_same, by rw [List.length_map]; lia, hN _ _ _ ⟨hlt, by rw [rs, List.map_append]; rfl, k4, by rw [upd_upd]⟩⟩
    · rw [e, if_neg Bool.false_ne_true, List.append_nil] at rs
      exact hN _ _ _ ⟨hlt, by rw [rs], k4, rfl⟩
  · rintro ys τ' H2 ⟨_, rfl, _, rfl⟩
    exact ⟨(hJ n _ (Same.upd hl)).2, hq⟩
section
variable {X : Cx} {CX : CXT} {k j : Nat} {ps : List Str} {sp : Sp} {E : XK} {x : Str} {p pos : Pos} {e : Expr} {es : List Expr} {t : TA}

theorem pcU (U : Used X.prog X.w X.K X.mg CX k x ps sp) (hr : Room j X.A) (hx : Passes CX X E) (ha : PA X (e :: es) t) (hj : k ≤ j := by decide) (hg : Gl X x := by rfl) (hdb : (x == ("__debug__" : Str)) = false := by decide) (he : starEach (e :: es) X.env = (false, eval e X.env) :: starEach es X.env := by rfl) (hpl : (backTo pos (starEach es X.env)).any (·.1) = false := by rfl) :
    PE X (.Call (.Name x p) (e :: es) [] pos) (tCall sp [] E t) := by
  obtain ⟨f, fd, G, m, k, b⟩ := U.ok
  exact pe_call (G X.base) (hr.mono hj) hg m k b .nil hx ha hdb he hpl
end
section
variable {X : Cx} {N ps : List Str} {sc : Scope}

theorem psU (i : Nat) (S : FnScope X.N ps sc) {x : Str} {e : Expr} {te : TE} {pos pos' : Pos} (he : PE X e te) (hi : X.N[i]? = some x := by rfl) (hx : Loc X.env.scope x := by first | exact Or.inl rfl | exact Or.inr rfl) (hs : swapsWith e (some (.Name x pos')) pos.line X.env = pure false := by rfl) (hf : X.fn x = true ∨ X.env.scope.names.lookup x = some .local := by first | exact .inl rfl | exact .inr rfl | assumption) :
    PS X (.Assign [.Name x pos'] e pos) (tAsg te (gName i)) := ps_set S.nd hi hx he hs hf
theorem scU {P : List Str} (h1 : sc.kind = .function := by rfl) (h2 : sc.isCoroutine = false := by rfl) (h3 : sc.isGenerator = false := by rfl) (h4 : N.Nodup := by decide +kernel) (h5 : N.take P.length = P := by rfl) (h6 : ∀ x ∈ P, sc.names.lookup x = some .local ∨ sc.names.lookup x = some .cell := by decide +kernel) (h7 : ∀ y ∈ sc.names, y.2 ≠ .free := by decide +kernel) : FnScope N P sc := ⟨h1, h2, h3, h4, h5, h6, h7⟩
end
section
variable {P : Program} {w : World} {K : PySem.W.Frag} {mg : Str → Option Value} {base : Heap} {x qual : Str} {st : Stmt} {f : Addr} {fd : FuncData} {N ps : List Str} {k : Nat} {sp : Sp}
end

def Gd (P : Program) (w : World) (K : PySem.W.Frag) (mg : Str → Option Value) (CX : CXT) (k : Nat) (x q : Str) (st : Stmt) (ps : List Str) (sp : Sp) : Prop := ∀ {f : Addr} {fd : FuncData} {base : Heap}, Fun K x q st f fd → FnOk P w K mg base CX k f fd ps sp
section
variable {P : Program} {w : World} {K : PySem.W.Frag} {mg : Str → Option Value} {x qual : Str} {st : Stmt} {N ps : List Str} {k : Nat} {sp : Sp}
end

section
variable (K : PySem.W.Frag) {X : Cx} {a b e : Expr} {ta tb te : TE} {pos p apos cpos : Pos}
theorem ixL (ha : PE X a ta) (hb : PE X b tb) (hK : X.K = K := by rfl) (hs : PlainIx b := by exact fun _ _ => rfl) : PE X (.Subscript a b pos) (tOp (rIxL K) ta tb) := pe_ix (ix_listK K hK) ha hb hs
theorem lnU (hm : X.mg "len" = none) (ha : PE X e te) (hK : X.K = K := by rfl) (hg : Gl X "len" := by rfl) (he : starEach [e] X.env = [(false, eval e X.env)] := by rfl) : PE X (.Call (.Name "len" p) [e] [] pos) (tCB (fun xs H Q => ∃ p ys, xs = [.ref p] ∧ (SqL K H p ys ∨ SqT K H p ys) ∧ Q (.int ys.length) H) (tCons te tNil)) := pe_callB (call_len_seqK K hK) hg hm PyProof.Rows.Boot.«len» (pa_cons ha pa_nil he) (by decide) (by decide) he rfl
theorem apU (ho : PE X a ta) (ha : PE X e te) (hK : X.K = K := by rfl) (hbase : attributeBase a "append" X.env (eval a X.env) = eval a X.env := by rfl) (hline : (apos.endLine == cpos.line) = true := by rfl) (he : starEach [e] X.env = [(false, eval e X.env)] := by rfl)
    (hfew : ((backTo cpos (starEach [e] X.env)).all (fun x => !x.1) && (backToKw cpos (keywordEach [] X.env)).all (fun x => x.1.isSome)
      && decide ([e].length + ([] : List Keyword).length + (if ([] : List Keyword).isEmpty then 0 else 1) < 30)) = true := by rfl) : PE X (.Call (.Attribute a "append" apos) [e] [] cpos) (tBM K "list" rAppend ta (tCons te tNil)) := pe_bmK K hK PySem.F.plainAttrs_list PySem.F.slot_list_append PySem.F.type_list_append mt_append ho (pa_cons ha pa_nil he) hbase hfew hline he rfl
end
section
variable {X : Cx} {ps : List Str} {sc : Scope} {pos : Pos}
theorem pgU (i : Nat) (S : FnScope X.N ps sc) {x : Str} (hi : X.N[i]? = some x := by rfl) (hx : Loc X.env.scope x := by first | exact Or.inl rfl | exact Or.inr rfl) (hf : X.fn x = true ∨ X.env.scope.names.lookup x = some .local := by first | exact .inl rfl | exact .inr rfl | assumption) : PG X (.Name x pos) (gName i) := pg_name S.nd hi hx hf
theorem pfU {tg iter : Expr} {body : List Stmt} {wi : TI} {g : TG} {tb : TS} (hi : PI X tg iter wi) (hg : PG X tg g) (hb : PSs X body tb) (hp : PassesOwn (model X.prog X.w) X.A X.env X.xe := by exact PassesOwn.never) (hc : X.calm = true := by rfl)
    (hs : ∀ x, foldedSetIterable iter X.env x = pure x := by intro _; rfl) : PS X (.For tg iter body [] pos) (tFor wi g tb) := ps_for hp hc hi hg hb hs
theorem pa1 {e : Expr} {te : TE} (ha : PE X e te) (hs : starEach [e] X.env = [(false, eval e X.env)] := by rfl) : PA X [e] (tCons te tNil) := pa_cons ha pa_nil hs
theorem cpU {N : List Str} {ρ : List (Option Nat)} (hk : sc.kind = .function := by rfl) (hn : ∀ y ∈ sc.names, y.2 ≠ .cell ∧ y.2 ≠ .free := by decide +kernel) (hl : ∀ y ∈ sc.names, y.2 = .local → sc.names.lookup y.1 = some .local := by decide +kernel) (hlen : ρ.length = N.length := by rfl) (hρ : ∀ o ∈ ρ, o = none := by simp) : CompScope X N ρ sc [] := CompScope.plain hk hn hl hlen hρ
end
end L2


set_option linter.all false
set_option maxRecDepth 100000
set_option maxHeartbeats 4000000
namespace L2
open PySem PySem.Spec PyProof.Rows
inductive D where
  | non | bl (b : Bool) | int (i : Int) | str (x : Str) | lst (xs : List D) | tup (xs : List D) | oth
mutual
def eqD : D → D → Bool
  | .non, .non => true
  | .bl a, .bl b => a == b
  | .bl a, .int b => (if a then (1 : Int) else 0) == b
  | .int a, .bl b => a == (if b then (1 : Int) else 0)
  | .int a, .int b => a == b
  | .str a, .str b => a == b
  | .lst xs, .lst ys => eqDs xs ys
  | .tup xs, .tup ys => eqDs xs ys
  | _, _ => false
def eqDs : List D → List D → Bool
  | [], [] => true
  | x :: xs, y :: ys => eqD x y && eqDs xs ys
  | _, _ => false
end
mutual
def D.dep : D → Nat
  | .lst xs => depS xs + 1
  | .tup xs => depS xs + 1
  | _ => 0
def depS : List D → Nat
  | [] => 0
  | x :: xs => max x.dep (depS xs)
end
mutual
def Den (H : Hp) : V → D → Prop
  | v, .non => v = .non
  | v, .bl b => v = .bl b
  | v, .int i => v = .int i
  | v, .str x => v = .str x
  | v, .lst ds => ∃ a xs, v = .ref a ∧ Rd H a (.lst xs) ∧ Dens H xs ds
  | v, .tup ds => ∃ a xs, v = .ref a ∧ H a = some (.tup xs) ∧ Dens H xs ds
  | v, .oth => ∃ a kvs, v = .ref a ∧ H a = some (.dK kvs)
def Dens (H : Hp) : List V → List D → Prop
  | [], [] => True
  | v :: vs, d :: ds => Den H v d ∧ Dens H vs ds
  | _, _ => False
end
mutual

def D.ok : D → Bool
  | .lst xs => okS xs
  | .tup xs => okS xs
  | .oth => false
  | _ => true
def okS : List D → Bool
  | [] => true
  | x :: xs => x.ok && okS xs
end
theorem okS_mem : ∀ {xs : List D} {d : D}, okS xs = true → d ∈ xs → d.ok = true
  | x :: xs, d, h, hd => by
    unfold okS at h
    rw [Bool.and_eq_true] at h
    rcases List.mem_cons.mp hd with rfl | hd
    · exact h.1
    · exact okS_mem h.2 hd
theorem okS_of : ∀ {xs : List D}, (∀ d ∈ xs, d.ok = true) → okS xs = true
  | [], _ => by unfold okS; rfl
  | x :: xs, h => by unfold okS; rw [h x List.mem_cons_self, okS_of fun d hd => h d (List.mem_cons_of_mem _ hd)]; rfl
theorem depS_le : ∀ {xs : List D} {d : D}, d ∈ xs → d.dep ≤ depS xs
  | x :: xs, d, h => by
    unfold depS
    rcases List.mem_cons.mp h with rfl | h
    · exact Nat.le_max_left _ _
    · exact Nat.le_trans (depS_le h) (Nat.le_max_right _ _)
mutual
theorem eqD_refl : ∀ d : D, d.ok = true → eqD d d = true
  | .non, _ => by unfold eqD; rfl
  | .bl b, _ => by unfold eqD; exact beq_self_eq_true b
  | .int i, _ => by unfold eqD; exact beq_self_eq_true i
  | .str x, _ => by unfold eqD; exact beq_self_eq_true x
  | .lst xs, h => by unfold eqD; unfold D.ok at h; exact eqDs_refl xs h
  | .tup xs, h => by unfold eqD; unfold D.ok at h; exact eqDs_refl xs h
  | .oth, h => by unfold D.ok at h; cases h
theorem eqDs_refl : ∀ ds : List D, okS ds = true → eqDs ds ds = true
  | [], _ => by unfold eqDs; rfl
  | d :: ds, h => by
    unfold okS at h
    rw [Bool.and_eq_true] at h
    unfold eqDs
    rw [eqD_refl d h.1, eqDs_refl ds h.2]
    rfl
end
theorem eqD_lst (xs ys : List D) : eqD (.lst xs) (.lst ys) = eqDs xs ys := by unfold eqD; rfl
theorem eqD_tup (xs ys : List D) : eqD (.tup xs) (.tup ys) = eqDs xs ys := by unfold eqD; rfl
theorem eqDs_len : ∀ {xs ys : List D}, xs.length ≠ ys.length → eqDs xs ys = false
  | [], [], h => absurd rfl h
  | [], _ :: _, _ => by unfold eqDs; rfl
  | _ :: _, [], _ => by unfold eqDs; rfl
  | x :: xs, y :: ys, h => by
    unfold eqDs
    rw [eqDs_len (xs := xs) (ys := ys) fun e => h (by rw [List.length_cons, List.length_cons, e]), Bool.and_false]
theorem eqDs_all : ∀ {xs ys : List D}, xs.length = ys.length → eqDs xs ys = (List.range xs.length).all fun j => eqD (xs.getD j .non) (ys.getD j .non)
  | [], [], _ => by unfold eqDs; rfl
  | [], _ :: _, h => by cases h
  | _ :: _, [], h => by cases h
  | x :: xs, y :: ys, h => by
    unfold eqDs
    rw [eqDs_all (xs := xs) (ys := ys) (Nat.succ.inj h), List.length_cons, List.range_succ_eq_map, List.all_cons, List.all_map]
    rfl
section
variable {H H' : Hp}
theorem Dens.len : ∀ {xs : List V} {ds : List D}, Dens H xs ds → xs.length = ds.length
  | [], [], _ => rfl
  | [], _ :: _, h => by unfold Dens at h; exact h.elim
  | _ :: _, [], h => by unfold Dens at h; exact h.elim
  | v :: vs, d :: ds, h => by
    unfold Dens at h
    rw [List.length_cons, List.length_cons, Dens.len h.2]
theorem Dens.get : ∀ {xs : List V} {ds : List D} {i : Nat} {v : V}, Dens H xs ds → xs[i]? = some v → ∃ d, ds[i]? = some d ∧ Den H v d
  | [], _, i, v, _, e => by simp at e
  | _ :: _, [], _, _, h, _ => by unfold Dens at h; exact h.elim
  | x :: xs, d :: ds, 0, v, h, e => by
    unfold Dens at h
    simp at e
    subst e
    exact ⟨d, rfl, h.1⟩
  | x :: xs, d :: ds, i + 1, v, h, e => by
    unfold Dens at h
    exact Dens.get (i := i) h.2 (by simpa using e)
theorem Dens.getD : ∀ {xs : List V} {ds : List D} {i : Nat} {d : D}, Dens H xs ds → ds[i]? = some d → ∃ v, xs[i]? = some v ∧ Den H v d
  | _, [], i, v, _, e => by simp at e
  | [], _ :: _, _, _, h, _ => by unfold Dens at h; exact h.elim
  | x :: xs, d :: ds, 0, v, h, e => by
    unfold Dens at h
    simp at e
    subst e
    exact ⟨x, rfl, h.1⟩
  | x :: xs, d :: ds, i + 1, v, h, e => by
    unfold Dens at h
    exact Dens.getD (i := i) h.2 (by simpa using e)
theorem Dens.nil : Dens H [] [] := by unfold Dens; trivial
theorem Dens.cons {v : V} {vs : List V} {d : D} {ds : List D} (h : Den H v d) (hs : Dens H vs ds) : Dens H (v :: vs) (d :: ds) := by unfold Dens; exact ⟨h, hs⟩
theorem Dens.append : ∀ {xs ys : List V} {ds es : List D}, Dens H xs ds → Dens H ys es → Dens H (xs ++ ys) (ds ++ es)
  | [], _, [], _, _, h => h
  | [], _, _ :: _, _, h, _ => by unfold Dens at h; exact h.elim
  | _ :: _, _, [], _, h, _ => by unfold Dens at h; exact h.elim
  | x :: xs, ys, d :: ds, es, h, h2 => by
    unfold Dens at h
    exact .cons h.1 (Dens.append h.2 h2)
theorem Dens.of_all : ∀ {xs : List V} {ds : List D}, xs.length = ds.length → (∀ (i : Nat) (v : V) (d : D), xs[i]? = some v → ds[i]? = some d → Den H v d) → Dens H xs ds
  | [], [], _, _ => .nil
  | [], _ :: _, h, _ => by cases h
  | _ :: _, [], h, _ => by cases h
  | x :: xs, d :: ds, h, k => .cons (k 0 x d rfl rfl) (Dens.of_all (Nat.succ.inj h) fun i v e h1 h2 => k (i + 1) v e (by simpa using h1) (by simpa using h2))
theorem Dens.take {xs : List V} {ds : List D} (h : Dens H xs ds) (n : Nat) : Dens H (xs.take n) (ds.take n) := by
  have hl := h.len
  refine .of_all (by rw [List.length_take, List.length_take, hl]) fun i v d h1 h2 => ?_
  rw [List.getElem?_take] at h1 h2
  split at h1
  · rw [if_pos (by assumption)] at h2
    obtain ⟨e, he, hd⟩ := h.get h1
    rw [h2] at he; cases he
    exact hd
  · cases h1
theorem Dens.drop {xs : List V} {ds : List D} (h : Dens H xs ds) (n : Nat) : Dens H (xs.drop n) (ds.drop n) := by
  have hl := h.len
  refine .of_all (by rw [List.length_drop, List.length_drop, hl]) fun i v d h1 h2 => ?_
  rw [List.getElem?_drop] at h1 h2
  obtain ⟨e, he, hd⟩ := h.get h1
  rw [h2] at he; cases he
  exact hd
theorem Den.lst {a : Addr} {xs : List V} {ds : List D} (h : Rd H a (.lst xs)) (hs : Dens H xs ds) : Den H (.ref a) (.lst ds) := by unfold Den; exact ⟨a, xs, rfl, h, hs⟩
theorem Den.tup {a : Addr} {xs : List V} {ds : List D} (h : H a = some (.tup xs)) (hs : Dens H xs ds) : Den H (.ref a) (.tup ds) := by unfold Den; exact ⟨a, xs, rfl, h, hs⟩
theorem Den.int (i : Int) : Den H (.int i) (.int i) := by unfold Den; rfl
theorem Den.str (x : Str) : Den H (.str x) (.str x) := by unfold Den; rfl
theorem Den.bl (b : Bool) : Den H (.bl b) (.bl b) := by unfold Den; rfl
theorem Den.non : Den H .non .non := by unfold Den; rfl
theorem Den.to_lst {v : V} {ds : List D} (h : Den H v (.lst ds)) : ∃ a xs, v = .ref a ∧ Rd H a (.lst xs) ∧ Dens H xs ds := by unfold Den at h; exact h
theorem Den.to_tup {v : V} {ds : List D} (h : Den H v (.tup ds)) : ∃ a xs, v = .ref a ∧ H a = some (.tup xs) ∧ Dens H xs ds := by unfold Den at h; exact h
theorem Dens.ints : ∀ (ns : List Int), Dens H (ns.map V.int) (ns.map D.int)
  | [] => .nil
  | n :: ns => .cons (.int n) (Dens.ints ns)
theorem Same.rd {a : Addr} {u : HO} (e : Same H H') (h : Rd H a u) : Rd H' a u := by
  rcases h with h | ⟨o, h⟩
  · exact .inl (e _ _ h)
  · exact .inr ⟨o, e _ _ h⟩
theorem Rd.inj {a : Addr} {xs ys : List V} (h : Rd H a (.lst xs)) (h' : Rd H a (.lst ys)) : xs = ys := by
  rcases h with h | ⟨o, h⟩ <;> rcases h' with h' | ⟨o', h'⟩ <;> rw [h] at h' <;> cases h' <;> rfl
mutual
theorem Den.same (e : Same H H') : ∀ {v : V} {d : D}, Den H v d → Den H' v d
  | _, .non, h => by unfold Den at h ⊢; exact h
  | _, .bl _, h => by unfold Den at h ⊢; exact h
  | _, .int _, h => by unfold Den at h ⊢; exact h
  | _, .str _, h => by unfold Den at h ⊢; exact h
  | _, .lst ds, h => by
    unfold Den at h ⊢
    obtain ⟨a, xs, e1, e2, e3⟩ := h
    exact ⟨a, xs, e1, e.rd e2, Dens.same e e3⟩
  | _, .tup ds, h => by
    unfold Den at h ⊢
    obtain ⟨a, xs, e1, e2, e3⟩ := h
    exact ⟨a, xs, e1, e _ _ e2, Dens.same e e3⟩
  | _, .oth, h => by
    unfold Den at h ⊢
    obtain ⟨a, kvs, e1, e2⟩ := h
    exact ⟨a, kvs, e1, e _ _ e2⟩
theorem Dens.same (e : Same H H') : ∀ {vs : List V} {ds : List D}, Dens H vs ds → Dens H' vs ds
  | [], [], h => .nil
  | [], _ :: _, h => by unfold Dens at h; exact h.elim
  | _ :: _, [], h => by unfold Dens at h; exact h.elim
  | v :: vs, d :: ds, h => by
    unfold Dens at h
    exact .cons (Den.same e h.1) (Dens.same e h.2)
end
end
section
variable {X : Cx} {pins : List (Addr × Obj)} {σ : St} {H : Hp} {s : Shared}
mutual
theorem Den.uniq : ∀ {v : V} {d d' : D}, Den H v d → Den H v d' → d = d'
  | v, .non, d', h, h' => by
    unfold Den at h; subst h
    cases d' with
    | non => rfl
    | lst es => unfold Den at h'; obtain ⟨_, _, z, _⟩ := h'; cases z
    | tup es => unfold Den at h'; obtain ⟨_, _, z, _⟩ := h'; cases z
    | oth => unfold Den at h'; obtain ⟨_, _, z, _⟩ := h'; cases z
    | _ => unfold Den at h'; cases h'
  | v, .bl b, d', h, h' => by
    unfold Den at h; subst h
    cases d' with
    | bl c => unfold Den at h'; cases h'; rfl
    | lst es => unfold Den at h'; obtain ⟨_, _, z, _⟩ := h'; cases z
    | tup es => unfold Den at h'; obtain ⟨_, _, z, _⟩ := h'; cases z
    | oth => unfold Den at h'; obtain ⟨_, _, z, _⟩ := h'; cases z
    | _ => unfold Den at h'; cases h'
  | v, .int b, d', h, h' => by
    unfold Den at h; subst h
    cases d' with
    | int c => unfold Den at h'; cases h'; rfl
    | lst es => unfold Den at h'; obtain ⟨_, _, z, _⟩ := h'; cases z
    | tup es => unfold Den at h'; obtain ⟨_, _, z, _⟩ := h'; cases z
    | oth => unfold Den at h'; obtain ⟨_, _, z, _⟩ := h'; cases z
    | _ => unfold Den at h'; cases h'
  | v, .str b, d', h, h' => by
    unfold Den at h; subst h
    cases d' with
    | str c => unfold Den at h'; cases h'; rfl
    | lst es => unfold Den at h'; obtain ⟨_, _, z, _⟩ := h'; cases z
    | tup es => unfold Den at h'; obtain ⟨_, _, z, _⟩ := h'; cases z
    | oth => unfold Den at h'; obtain ⟨_, _, z, _⟩ := h'; cases z
    | _ => unfold Den at h'; cases h'
  | v, .lst ds, d', h, h' => by
    obtain ⟨a, xs, rfl, e2, e3⟩ := h.to_lst
    cases d' with
    | lst es =>
      obtain ⟨b, ys, z, f2, f3⟩ := h'.to_lst
      cases z
      have := e2.inj f2
      subst this
      rw [Dens.uniq e3 f3]
    | tup es =>
      obtain ⟨b, ys, z, f2, f3⟩ := h'.to_tup
      cases z
      rcases e2 with e2 | ⟨o, e2⟩ <;> rw [e2] at f2 <;> cases f2
    | oth =>
      unfold Den at h'
      obtain ⟨b, ys, z, f2⟩ := h'
      cases z
      rcases e2 with e2 | ⟨o, e2⟩ <;> rw [e2] at f2 <;> cases f2
    | _ => unfold Den at h'; cases h'
  | v, .tup ds, d', h, h' => by
    obtain ⟨a, xs, rfl, e2, e3⟩ := h.to_tup
    cases d' with
    | tup es =>
      obtain ⟨b, ys, z, f2, f3⟩ := h'.to_tup
      cases z
      rw [e2] at f2
      cases f2
      rw [Dens.uniq e3 f3]
    | lst es =>
      obtain ⟨b, ys, z, f2, f3⟩ := h'.to_lst
      cases z
      rcases f2 with f2 | ⟨o, f2⟩ <;> rw [e2] at f2 <;> cases f2
    | oth =>
      unfold Den at h'
      obtain ⟨b, ys, z, f2⟩ := h'
      cases z
      rw [e2] at f2; cases f2
    | _ => unfold Den at h'; cases h'
  | v, .oth, d', h, h' => by
    unfold Den at h
    obtain ⟨a, kvs, rfl, e2⟩ := h
    cases d' with
    | oth => rfl
    | lst es =>
      obtain ⟨b, ys, z, f2, f3⟩ := h'.to_lst
      cases z
      rcases f2 with f2 | ⟨o, f2⟩ <;> rw [e2] at f2 <;> cases f2
    | tup es =>
      obtain ⟨b, ys, z, f2, f3⟩ := h'.to_tup
      cases z
      rw [e2] at f2; cases f2
    | _ => unfold Den at h'; cases h'
theorem Dens.uniq : ∀ {vs : List V} {ds es : List D}, Dens H vs ds → Dens H vs es → ds = es
  | [], [], [], _, _ => rfl
  | [], _ :: _, _, h, _ => by unfold Dens at h; exact h.elim
  | [], _, _ :: _, _, h => by unfold Dens at h; exact h.elim
  | _ :: _, [], _, h, _ => by unfold Dens at h; exact h.elim
  | _ :: _, _, [], _, h => by unfold Dens at h; exact h.elim
  | v :: vs, d :: ds, e :: es, h, h' => by
    unfold Dens at h h'
    rw [Den.uniq h.1 h'.1, Dens.uniq h.2 h'.2]
end

def tyD : D → String
  | .non => "NoneType"
  | .bl _ => "bool"
  | .int _ => "int"
  | .str _ => "str"
  | .lst _ => "list"
  | .tup _ => "tuple"
  | .oth => "dict"
theorem Den.ty {K : PySem.W.Frag} : ∀ {v : V} {d : D}, Den H v d → TyOf K H v (.type (tyD d))
  | _, .non, h => by unfold Den at h; subst h; exact .non
  | _, .bl b, h => by unfold Den at h; subst h; exact .bl b
  | _, .int b, h => by unfold Den at h; subst h; exact .int b
  | _, .str b, h => by unfold Den at h; subst h; exact .str b
  | _, .lst ds, h => by
    obtain ⟨a, xs, rfl, e2 | ⟨o, e2⟩, _⟩ := h.to_lst
    · exact .lst e2
    · exact .frz e2
  | _, .tup ds, h => by
    obtain ⟨a, xs, rfl, e2, _⟩ := h.to_tup
    exact .tup e2
  | _, .oth, h => by
    unfold Den at h
    obtain ⟨a, kvs, rfl, e2⟩ := h
    exact .dK e2
theorem getD_of {ds : List D} {i : Nat} {d : D} (h : ds[i]? = some d) : ds.getD i .non = d := by
  rw [List.getD_eq_getElem?_getD, h]; rfl

structure Cmp (A : Around) (s : Shared) (x y : Value) (b : Bool) : Prop where
  eq : SeqAt.EqAt A s x y b
  rc : SeqAt.RcAt A s x y b
  ne : SeqAt.RcNeAt A s x y (!b)
theorem cmp_seq {A : Around} {xs ys : List V} {ds es : List D} {its its2 : List Value} (h1 : Dens H xs ds) (h2 : Dens H ys es) (r1 : Vals xs its) (r2 : Vals ys its2)
    (ih : ∀ (d d' : D) (v u : V) (x y : Value), d ∈ ds → d' ∈ es → Den H v d → Den H u d' → RelV v x → RelV u y → SeqAt.EqAt A s x y (eqD d d')) :
    ∀ j (q1 : j < its.toArray.size) (q2 : j < its2.toArray.size), SeqAt.EqAt A s its.toArray[j] its2.toArray[j] (eqD (ds.getD j .non) (es.getD j .non)) := by
  intro j q1 q2
  have l1 := r1.length
  have l2 := r2.length
  have q1' : j < xs.length := by rw [l1]; simpa using q1
  have q2' : j < ys.length := by rw [l2]; simpa using q2
  obtain ⟨d, hd, den⟩ := h1.get (i := j) (List.getElem?_eq_getElem q1')
  obtain ⟨d', hd', den'⟩ := h2.get (i := j) (List.getElem?_eq_getElem q2')
  obtain ⟨u, hu, ru⟩ := r1.get (List.getElem?_eq_getElem q1')
  obtain ⟨u', hu', ru'⟩ := r2.get (List.getElem?_eq_getElem q2')
  rw [getD_of hd, getD_of hd']
  have e1 : its.toArray[j] = u := by
    have : its.toArray[j]? = some u := by simpa using hu
    rw [Array.getElem?_eq_getElem q1] at this
    exact Option.some.inj this
  have e2 : its2.toArray[j] = u' := by
    have : its2.toArray[j]? = some u' := by simpa using hu'
    rw [Array.getElem?_eq_getElem q2] at this
    exact Option.some.inj this
  rw [e1, e2]
  exact ih d d' _ _ _ _ (List.mem_of_getElem? hd) (List.mem_of_getElem? hd') den den' ru ru'
theorem cmp_of_refs {A : Around} {a b : Addr} {d d' : D} {k : Bool} (hk : k = eqD d d') (hok : d.ok = true) (h1 : Den H (.ref a) d) (h2 : Den H (.ref b) d') (rc : SeqAt.RcAt A s (.ref a) (.ref b) k) (ne : SeqAt.RcNeAt A s (.ref a) (.ref b) (!k)) : Cmp A s (.ref a) (.ref b) (eqD d d') := by
  subst hk
  refine ⟨?_, rc, ne⟩
  by_cases hab : a = b
  · subst hab
    have := h1.uniq h2
    subst this
    rw [eqD_refl _ hok]
    exact .same _
  · exact .of_refs hab rc
theorem cmp_D (I : Inv X pins σ H s) : ∀ (n : Nat) (A : Around) (d d' : D) (v u : V) (x y : Value), d.ok = true → d'.ok = true → d.dep ≤ n → A.units + n < cLine → Den H v d → Den H u d' → RelV v x → RelV u y → Cmp A s x y (eqD d d') := by
  intro n
  induction n with
  | zero =>
    intro A d d' v u x y hok hok' hn hu h h' r r'
    have hu' : A.units < cLine := by lia
    cases d with
    | lst ds => unfold D.dep at hn; lia
    | tup ds => unfold D.dep at hn; lia
    | oth => unfold D.ok at hok; cases hok
    | non =>
      unfold Den at h; subst h; cases r
      cases d' with
      | non => unfold Den at h'; subst h'; cases r'; unfold eqD; exact ⟨.same _, .none_none, .none_none⟩
      | bl b => unfold Den at h'; subst h'; cases r'; unfold eqD; exact ⟨.none_bool _, .none_bool _, .none_bool _⟩
      | int b => unfold Den at h'; subst h'; obtain ⟨t, rfl⟩ := r'; unfold eqD; exact ⟨.none_int _ _, .none_int _ _, .none_int _ _⟩
      | str b => unfold Den at h'; subst h'; obtain ⟨t, rfl⟩ := r'; unfold eqD; exact ⟨.none_str _ _, .none_str _ _, .none_str _ _⟩
      | lst ds => obtain ⟨a, xs, rfl, e2, _⟩ := h'.to_lst; cases r'; obtain ⟨_, _, p, _⟩ := I.list (.inl e2); unfold eqD; exact ⟨.none_list p.isList hu', .none_list p.isList hu', .none_list p.isList hu'⟩
      | tup ds => obtain ⟨a, xs, rfl, e2, _⟩ := h'.to_tup; cases r'; obtain ⟨_, _, p, _⟩ := I.tuple (.inl (.inl e2)); unfold eqD; exact ⟨.none_tuple p hu', .none_tuple p hu', .none_tuple p hu'⟩
      | oth => unfold D.ok at hok'; cases hok'
    | bl c =>
      unfold Den at h; subst h; cases r
      cases d' with
      | non => unfold Den at h'; subst h'; cases r'; unfold eqD; exact ⟨.bool_none _, .bool_none _, .bool_none _⟩
      | bl b => unfold Den at h'; subst h'; cases r'; unfold eqD; exact ⟨.bool_bool _ _, .bool_bool _ _, .bool_bool _ _⟩
      | int b => unfold Den at h'; subst h'; obtain ⟨t, rfl⟩ := r'; unfold eqD; exact ⟨.bool_int _ _ _, .bool_int _ _ _, .bool_int _ _ _⟩
      | str b => unfold Den at h'; subst h'; obtain ⟨t, rfl⟩ := r'; unfold eqD; exact ⟨.bool_str _ _ _, .bool_str _ _ _, .bool_str _ _ _⟩
      | lst ds => obtain ⟨a, xs, rfl, e2, _⟩ := h'.to_lst; cases r'; obtain ⟨_, _, p, _⟩ := I.list (.inl e2); unfold eqD; exact ⟨.bool_list _ p.isList hu', .bool_list _ p.isList hu', .bool_list _ p.isList hu'⟩
      | tup ds => obtain ⟨a, xs, rfl, e2, _⟩ := h'.to_tup; cases r'; obtain ⟨_, _, p, _⟩ := I.tuple (.inl (.inl e2)); unfold eqD; exact ⟨.bool_tuple _ p hu', .bool_tuple _ p hu', .bool_tuple _ p hu'⟩
      | oth => unfold D.ok at hok'; cases hok'
    | int c =>
      unfold Den at h; subst h; obtain ⟨t, rfl⟩ := r
      cases d' with
      | non => unfold Den at h'; subst h'; cases r'; unfold eqD; exact ⟨.int_none _ _, .int_none _ _, .int_none _ _⟩
      | bl b => unfold Den at h'; subst h'; cases r'; unfold eqD; exact ⟨.int_bool _ _ _, .int_bool _ _ _, .int_bool _ _ _⟩
      | int b => unfold Den at h'; subst h'; obtain ⟨t, rfl⟩ := r'; unfold eqD; exact ⟨.int_int _ _ _ _, .int_int _ _ _ _, .int_int _ _ _ _⟩
      | str b => unfold Den at h'; subst h'; obtain ⟨t, rfl⟩ := r'; unfold eqD; exact ⟨.int_str _ _ _ _, .int_str _ _ _ _, .int_str _ _ _ _⟩
      | lst ds => obtain ⟨a, xs, rfl, e2, _⟩ := h'.to_lst; cases r'; obtain ⟨_, _, p, _⟩ := I.list (.inl e2); unfold eqD; exact ⟨.int_list _ _ p.isList hu', .int_list _ _ p.isList hu', .int_list _ _ p.isList hu'⟩
      | tup ds => obtain ⟨a, xs, rfl, e2, _⟩ := h'.to_tup; cases r'; obtain ⟨_, _, p, _⟩ := I.tuple (.inl (.inl e2)); unfold eqD; exact ⟨.int_tuple _ _ p hu', .int_tuple _ _ p hu', .int_tuple _ _ p hu'⟩
      | oth => unfold D.ok at hok'; cases hok'
    | str c =>
      unfold Den at h; subst h; obtain ⟨t, rfl⟩ := r
      cases d' with
      | non => unfold Den at h'; subst h'; cases r'; unfold eqD; exact ⟨.str_none _ _, .str_none _ _, .str_none _ _⟩
      | bl b => unfold Den at h'; subst h'; cases r'; unfold eqD; exact ⟨.str_bool _ _ _, .str_bool _ _ _, .str_bool _ _ _⟩
      | int b => unfold Den at h'; subst h'; obtain ⟨t, rfl⟩ := r'; unfold eqD; exact ⟨.str_int _ _ _ _, .str_int _ _ _ _, .str_int _ _ _ _⟩
      | str b => unfold Den at h'; subst h'; obtain ⟨t, rfl⟩ := r'; unfold eqD; exact ⟨.str_str _ _ _ _, .str_str _ _ _ _, .str_str _ _ _ _⟩
      | lst ds => obtain ⟨a, xs, rfl, e2, _⟩ := h'.to_lst; cases r'; obtain ⟨_, _, p, _⟩ := I.list (.inl e2); unfold eqD; exact ⟨.str_list _ _ p.isList hu', .str_list _ _ p.isList hu', .str_list _ _ p.isList hu'⟩
      | tup ds => obtain ⟨a, xs, rfl, e2, _⟩ := h'.to_tup; cases r'; obtain ⟨_, _, p, _⟩ := I.tuple (.inl (.inl e2)); unfold eqD; exact ⟨.str_tuple _ _ p hu', .str_tuple _ _ p hu', .str_tuple _ _ p hu'⟩
      | oth => unfold D.ok at hok'; cases hok'
  | succ n ih =>
    intro A d d' v u x y hok hok' hn hu h h' r r'
    have hu' : A.units < cLine := by lia
    have hin : A.in1.units + n < cLine := by show A.units + 1 + n < cLine; lia
    cases d with
    | lst ds =>
      have hn' : ∀ d ∈ ds, d.dep ≤ n := fun d hd => by
        have h1 := depS_le hd
        unfold D.dep at hn
        lia
      obtain ⟨a, xs, rfl, e2, e3⟩ := h.to_lst
      cases r
      obtain ⟨its, r1, p, _⟩ := I.list (.inl e2)
      cases d' with
      | oth => unfold D.ok at hok'; cases hok'
      | non => unfold Den at h'; subst h'; cases r'; unfold eqD; exact ⟨.list_none p.isList hu', .list_none p.isList hu', .list_none p.isList hu'⟩
      | bl b => unfold Den at h'; subst h'; cases r'; unfold eqD; exact ⟨.list_bool _ p.isList hu', .list_bool _ p.isList hu', .list_bool _ p.isList hu'⟩
      | int b => unfold Den at h'; subst h'; obtain ⟨t, rfl⟩ := r'; unfold eqD; exact ⟨.list_int _ _ p.isList hu', .list_int _ _ p.isList hu', .list_int _ _ p.isList hu'⟩
      | str b => unfold Den at h'; subst h'; obtain ⟨t, rfl⟩ := r'; unfold eqD; exact ⟨.list_str _ _ p.isList hu', .list_str _ _ p.isList hu', .list_str _ _ p.isList hu'⟩
      | tup es => obtain ⟨b, ys, rfl, f2, f3⟩ := h'.to_tup; cases r'; obtain ⟨_, _, p2, _⟩ := I.tuple (.inl (.inl f2)); unfold eqD; exact ⟨.list_tuple p.isList p2 hu', .list_tuple p.isList p2 hu', .list_tuple p.isList p2 hu'⟩
      | lst es =>
        have hok1 := hok
        have hok2 := hok'
        unfold D.ok at hok1 hok2
        obtain ⟨b, ys, rfl, f2, f3⟩ := h'.to_lst
        cases r'
        obtain ⟨its2, r2, p2, _⟩ := I.list (.inl f2)
        have n1 : its.toArray.size = ds.length := by rw [List.size_toArray, ← r1.length, e3.len]
        have n2 : its2.toArray.size = es.length := by rw [List.size_toArray, ← r2.length, f3.len]
        by_cases hl : ds.length = es.length
        · have items := cmp_seq (A := A.in1) e3 f3 r1 r2 fun d d' v u x y hd hd' q1 q2 q3 q4 => (ih A.in1 d d' v u x y (okS_mem hok1 hd) (okS_mem hok2 hd') (hn' d hd) hin q1 q2 q3 q4).eq
          refine cmp_of_refs (k := (List.range its.toArray.size).all fun j => eqD (ds.getD j .non) (es.getD j .non)) ?_ hok h h' (.lists p.isList p2.isList (by rw [n1, n2, hl]) hu' items) (.lists p.isList p2.isList (by rw [n1, n2, hl]) hu' items)
          rw [n1, ← eqDs_all hl, eqD_lst]
        · refine cmp_of_refs (k := false) ?_ hok h h' (.lists_lengths p.isList p2.isList (by rw [n1, n2]; simpa using hl) hu') (.lists_lengths p.isList p2.isList (by rw [n1, n2]; simpa using hl) hu')
          unfold eqD
          rw [eqDs_len hl]
    | tup ds =>
      have hn' : ∀ d ∈ ds, d.dep ≤ n := fun d hd => by
        have h1 := depS_le hd
        unfold D.dep at hn
        lia
      obtain ⟨a, xs, rfl, e2, e3⟩ := h.to_tup
      cases r
      obtain ⟨its, r1, p, _⟩ := I.tuple (.inl (.inl e2))
      cases d' with
      | oth => unfold D.ok at hok'; cases hok'
      | non => unfold Den at h'; subst h'; cases r'; unfold eqD; exact ⟨.tuple_none p hu', .tuple_none p hu', .tuple_none p hu'⟩
      | bl b => unfold Den at h'; subst h'; cases r'; unfold eqD; exact ⟨.tuple_bool _ p hu', .tuple_bool _ p hu', .tuple_bool _ p hu'⟩
      | int b => unfold Den at h'; subst h'; obtain ⟨t, rfl⟩ := r'; unfold eqD; exact ⟨.tuple_int _ _ p hu', .tuple_int _ _ p hu', .tuple_int _ _ p hu'⟩
      | str b => unfold Den at h'; subst h'; obtain ⟨t, rfl⟩ := r'; unfold eqD; exact ⟨.tuple_str _ _ p hu', .tuple_str _ _ p hu', .tuple_str _ _ p hu'⟩
      | lst es => obtain ⟨b, ys, rfl, f2, f3⟩ := h'.to_lst; cases r'; obtain ⟨_, _, p2, _⟩ := I.list (.inl f2); unfold eqD; exact ⟨.tuple_list p p2.isList hu', .tuple_list p p2.isList hu', .tuple_list p p2.isList hu'⟩
      | tup es =>
        have hok1 := hok
        have hok2 := hok'
        unfold D.ok at hok1 hok2
        obtain ⟨b, ys, rfl, f2, f3⟩ := h'.to_tup
        cases r'
        obtain ⟨its2, r2, p2, _⟩ := I.tuple (.inl (.inl f2))
        have n1 : its.toArray.size = ds.length := by rw [List.size_toArray, ← r1.length, e3.len]
        have n2 : its2.toArray.size = es.length := by rw [List.size_toArray, ← r2.length, f3.len]
        have items := cmp_seq (A := A.in1) e3 f3 r1 r2 fun d d' v u x y hd hd' q1 q2 q3 q4 => (ih A.in1 d d' v u x y (okS_mem hok1 hd) (okS_mem hok2 hd') (hn' d hd) hin q1 q2 q3 q4).eq
        refine cmp_of_refs (k := (List.range (min its.toArray.size its2.toArray.size)).all (fun j => eqD (ds.getD j .non) (es.getD j .non)) && its.toArray.size == its2.toArray.size) ?_ hok h h' (.tuples p p2 hu' items) (.tuples p p2 hu' items)
        rw [n1, n2, eqD_tup]
        by_cases hl : ds.length = es.length
        · rw [eqDs_all hl, ← hl, Nat.min_self, beq_self_eq_true, Bool.and_true]
        · rw [eqDs_len hl, beq_eq_false_iff_ne.mpr hl, Bool.and_false]
    | oth => unfold D.ok at hok; cases hok
    | non => exact ih A .non d' v u x y hok hok' (by unfold D.dep; lia) (by lia) h h' r r'
    | bl b => exact ih A (.bl b) d' v u x y hok hok' (by unfold D.dep; lia) (by lia) h h' r r'
    | int b => exact ih A (.int b) d' v u x y hok hok' (by unfold D.dep; lia) (by lia) h h' r r'
    | str b => exact ih A (.str b) d' v u x y hok hok' (by unfold D.dep; lia) (by lia) h h' r r'
theorem op_eq_deep (K : PySem.W.Frag) (hK : X.K = K) (hu : X.A.units + 64 < cLine) : OpR X (compareOp .Eq) (fun x y H Q => ∃ d d', Den H x d ∧ Den H y d' ∧ d.ok = true ∧ d'.ok = true ∧ d.dep ≤ 64 ∧ Q (.bl (eqD d d')) H) := by
  subst hK
  intro pins s σ H x y v u Q I rx ry h
  obtain ⟨d, d', h1, h2, k1, k2, hd, q⟩ := h
  exact (cmp_D I 64 X.A d d' x y v u k1 k2 hd hu h1 h2 rx ry).rc X.prog X.w _ _ ⟨.bl _, H, I, rfl, q⟩
theorem op_ne_deep (K : PySem.W.Frag) (hK : X.K = K) (hu : X.A.units + 64 < cLine) : OpR X (compareOp .NotEq) (fun x y H Q => ∃ d d', Den H x d ∧ Den H y d' ∧ d.ok = true ∧ d'.ok = true ∧ d.dep ≤ 64 ∧ Q (.bl (!eqD d d')) H) := by
  subst hK
  intro pins s σ H x y v u Q I rx ry h
  obtain ⟨d, d', h1, h2, k1, k2, hd, q⟩ := h
  exact (cmp_D I 64 X.A d d' x y v u k1 k2 hd hu h1 h2 rx ry).ne X.prog X.w _ _ ⟨.bl _, H, I, rfl, q⟩
end
end L2


set_option linter.all false
set_option maxRecDepth 100000
set_option maxHeartbeats 4000000
namespace L2
open PySem PySem.Spec PyProof.Rows
section
variable {X : Cx} {pins : List (Addr × Obj)} {σ : St} {H : Hp} {s : Shared} {h' : Heap}

end

section
variable {X : Cx} {elts : List Expr} {k : Nat} {tpos : Pos}
end

def GivesG (J : It) (n : Nat) (H : Hp) (item : Nat → V → Hp → Prop) : Prop := ∀ i H', Same H H' → Plain H' → (i < n → J.go i H' ∧ ∀ x H3, J.yld i H' x H3 → Same H' H3 ∧ Plain H3 ∧ item i x H3) ∧ J.stop n H'
theorem GivesN.g {J : It} {n : Nat} {H : Hp} {item : Nat → V → Prop} (h : GivesN J n H item) : GivesG J n H fun i x _ => item i x := fun i H' s p =>
  ⟨fun hi => ⟨((h i H' s).1 hi).1, fun x H3 hy => by obtain ⟨e, it⟩ := ((h i H' s).1 hi).2 x H3 hy; subst e; exact ⟨Same.refl _, p, it⟩⟩, (h i H' s).2⟩
end L2


set_option linter.all false
set_option maxRecDepth 100000
set_option maxHeartbeats 4000000
namespace L2
open PySem PySem.Spec PyProof.Rows
section
variable {X : Cx} {elt tg iter : Expr} {ifs : List Expr} {scope : Scope} {cl : List (Str × Addr)} {N : List Str} {ρ : List (Option Nat)} {pos : Pos} {wi : TI} {g : TG} {tc : TT} {te : TE}

end
end L2


set_option linter.all false
set_option maxRecDepth 100000
set_option maxHeartbeats 4000000
namespace L2
open PySem PySem.Spec PyProof.Rows
end L2


set_option linter.all false
set_option maxRecDepth 100000
set_option maxHeartbeats 4000000
namespace L2
open PySem PySem.Spec PyProof.Rows
def notStar : Expr → Bool
  | .Starred _ _ => false
  | _ => true
theorem star_cons {e : Expr} {es : List Expr} {env : Env} (h : notStar e = true) : starEach (e :: es) env = (false, eval e env) :: starEach es env := by
  cases e <;> first | rfl | cases h

theorem pa_cs {X : Cx} {e : Expr} {es : List Expr} {te : TE} {t : TA} (ha : PE X e te) (hr : PA X es t) (h : notStar e = true := by rfl) : PA X (e :: es) (tCons te t) := pa_cons ha hr (star_cons h)

section
variable {X : Cx}

end
end L2


set_option linter.all false
namespace FR
open PySem L2
structure QSs (X : Cx) (st : List Stmt) (t : TS) : Prop where h : PSs X st t
structure QS (X : Cx) (st : Stmt) (t : TS) : Prop where h : PS X st t
theorem qss_cons {X : Cx} {st : Stmt} {rest : List Stmt} {t u : TS} (h1 : QS X st t) (h2 : QSs X rest u) : QSs X (st :: rest) (tSeq t u) := ⟨pss_cons h1.h h2.h⟩
theorem qss_one {X : Cx} {st : Stmt} {t : TS} (h1 : QS X st t) : QSs X [st] t := ⟨pss_one h1.h⟩
structure QE (X : Cx) (e : Expr) (t : TE) : Prop where h : PE X e t
structure QA (X : Cx) (es : List Expr) (t : TA) : Prop where h : PA X es t
theorem qa_nil {X : Cx} : QA X [] tNil := ⟨pa_nil⟩
theorem qe_int {X : Cx} {i j pos} : QE X (.Constant (.int i) j pos) (tC (.int i)) := ⟨pe_int⟩
theorem qe_non {X : Cx} {j pos} : QE X (.Constant .none j pos) (tC .non) := ⟨pe_non⟩
theorem qe_lst {X : Cx} {es : List Expr} {t : TA} {pos} (h : QA X es t) : QE X (.List es pos) (tLst t) := ⟨pe_lst h.h⟩
theorem qsU {X : Cx} {ps : List Str} {sc : Scope} (i : Nat) (S : FnScope X.N ps sc) {x : Str} {e : Expr} {te : TE} {pos pos' : Pos} (he : QE X e te) (hi : X.N[i]? = some x := by rfl) (hx : Loc X.env.scope x := by first | exact Or.inl rfl | exact Or.inr rfl) (hs : swapsWith e (some (.Name x pos')) pos.line X.env = pure false := by rfl) (hf : X.fn x = true ∨ X.env.scope.names.lookup x = some .local := by first | exact .inl rfl | exact .inr rfl | assumption) :
    QS X (.Assign [.Name x pos'] e pos) (tAsg te (gName i)) := ⟨ps_set S.nd hi hx he.h hs hf⟩
theorem qex {X : Cx} {st : List Stmt} {q : TS → Prop} (h : ∃ t, QSs X st t ∧ q t) : ∃ t, PSs X st t ∧ q t := let ⟨t, a, b⟩ := h; ⟨t, a.h, b⟩
end FR


set_option linter.all false
set_option maxRecDepth 100000
set_option maxHeartbeats 4000000
namespace L2
open PySem PySem.Spec PyProof.Rows

structure Mk0 (K : PySem.W.Frag) (C : Addr) : Prop where
  makes : PySem.W.makesIn K C = true
  init : PySem.W.findIn K (.ref C) "__init__" = some (some (.builtin "object.__init__"))
  kp : PySem.W.keepIn K (.ref C) = true
def tMk0 (C : Addr) : TE := fun σ H Q => ∀ x dx, H x = none → H dx = none → dx ≠ x → Q (.ref x) (upd (upd H dx (.own x)) x (.ins C dx []))
section
variable {X : Cx} {C : Addr} {x : Str} {p pos : Pos}
open PySem.W in
theorem run_mk0 {pins : List (Addr × Obj)} {σ : St} {H : Hp} {s : Shared} {Q : VK} (M : Mk0 X.K C) (I : Inv X pins σ H s)
    (h : ∀ x dx, H x = none → H dx = none → dx ≠ x → Q (.ref x) (L2.upd (L2.upd H dx (.own x)) x (.ins C dx []))) :
    wpAny (model X.prog X.w) X.A (PySem.call (.ref C) []) (EP X pins σ Q) X.xe s := by
  have hq := h (s.heap.objs.size + 1) s.heap.objs.size (I.hok.fresh (Nat.le_succ _)) (I.hok.fresh (Nat.le_refl _)) (Nat.ne_of_lt (Nat.lt_succ_self _))
  have I2 := Inv.made (C := C) I
  have kin := I.kIn
  obtain ⟨hh, g, d, t, os⟩ := s
  have Y := makes_of (M := model X.prog X.w) kin M.makes
  have hx : ((hh.push emptyDict).push (instObj C hh.objs.size)).get? (hh.objs.size + 1) = some (instObj C hh.objs.size) := by heap_get
  have t1 : Looks (model X.prog X.w) ((hh.push emptyDict).push (instObj C hh.objs.size)) (typeOf (.ref (hh.objs.size + 1))) (.ref C) := (Looks.ld hx).andThen .now
  have t2 : Looks (model X.prog X.w) ((hh.push emptyDict).push (instObj C hh.objs.size)) (isInstance (.ref (hh.objs.size + 1)) (.type "object")) true := t1.andThen (Y.top.keeps fun b o e => Heap.get?_push_of_some _ (Heap.get?_push_of_some _ e))
  refine wpAny_call (make_core Y (looks_findIn kin M.init) (fun self => Looks.of_pure (oi_bind self)) (.inr ⟨rfl, rfl⟩) ?_)
  refine codeAny_call_builtin oi_plain entry_oi (@check_slot (model X.prog X.w) _ _ _ "object.__init__" "object" "__init__" (.ref (hh.objs.size + 1)) [] [] _ oi_kind oi_split t2 (oi_args (.ref (hh.objs.size + 1))) ?_)
  rw [oi_run]
  exact wpAny_pure (And.intro rfl ⟨V.ref (hh.objs.size + 1), _, I2, rfl, hq⟩)

theorem pe_mk0 (M : Mk0 X.K C) (hg : Gl X x) (hm : X.mg x = some (.ref C)) (hdb : (x == ("__debug__" : Str)) = false := by decide) : PE X (.Call (.Name x p) [] [] pos) (tMk0 C) := by
  intro pins s σ H Q I h
  refine wpAny_Call_Name_kw (ld_glob I hg hm ?_ hdb)
  exact PySem.W.callWith_K0 I.kIn M.kp (run_mk0 M I h)
end

structure UsedM (P : Program) (w : World) (K : PySem.W.Frag) (mg : Str → Option Value) (CX : CXT) (k : Nat) (C : Addr) (m : Str) (ps : List Str) (sp : Sp) : Prop where
  ok : ∃ f fd, (∀ base, FnOk P w K mg base CX k f fd ps sp) ∧ Meth K C m f ∧ Binds K fd ps []

structure UsedI (P : Program) (w : World) (K : PySem.W.Frag) (mg : Str → Option Value) (CX : CXT) (k : Nat) (C : Addr) (ps : List Str) (sp : Sp) : Prop where
  ok : ∃ f fd, (∀ base, FnOk P w K mg base CX k f fd ps sp) ∧ Mk K C f ∧ Binds K fd ps []
section
variable {X : Cx} {CX : CXT} {k j : Nat} {C : Addr} {ps : List Str} {sp : Sp} {E : XK} {x m : Str} {p pos apos : Pos} {e o : Expr} {es : List Expr} {ta : TE} {t : TA}
theorem pmU {pl : Sem Bool} (he : PE X o ta) (c : Cls X.K C) (U : UsedM X.prog X.w X.K X.mg CX k C m ps sp) (hr : Room j X.A) (hx : Passes CX X E) (ha : PA X (e :: es) t) (hj : k ≤ j := by decide)
    (hst : starEach (e :: es) X.env = (false, eval e X.env) :: starEach es X.env := by rfl) (hpl : (backTo pos (starEach es X.env)).any (·.1) = false := by rfl)
    (ht : eval (.Call (.Attribute o m apos) (e :: es) [] pos) X.env = (do
      let ov ← eval o X.env
      standAt apos.atName
      let (f, first) ← holding [ov] (getMethod ov m pl)
      callWith pos f first (backTo pos (starEach (e :: es) X.env)) (backToKw pos (keywordEach [] X.env))) := by rfl) :
    PE X (.Call (.Attribute o m apos) (e :: es) [] pos) (tMeth C m sp [] E ta t) := by
  obtain ⟨f, fd, G, me, b⟩ := U.ok
  exact pe_meth he c me (G X.base) (hr.mono hj) b .nil hx ha hst hpl ht
theorem pmU0 {pl : Sem Bool} (he : PE X o ta) (c : Cls X.K C) (U : UsedM X.prog X.w X.K X.mg CX k C m ps sp) (hr : Room j X.A) (hx : Passes CX X E) (hj : k ≤ j := by decide)
    (ht : eval (.Call (.Attribute o m apos) [] [] pos) X.env = (do
      let ov ← eval o X.env
      standAt apos.atName
      let (f, first) ← holding [ov] (getMethod ov m pl)
      callWith pos f first (backTo pos (starEach [] X.env)) (backToKw pos (keywordEach [] X.env))) := by rfl) :
    PE X (.Call (.Attribute o m apos) [] [] pos) (tMeth C m sp [] E ta tNil) := by
  obtain ⟨f, fd, G, me, b⟩ := U.ok
  exact pe_meth0 he c me (G X.base) (hr.mono hj) b .nil hx ht
theorem pkU (U : UsedI X.prog X.w X.K X.mg CX k C ps sp) (hr : Room j X.A) (hm : X.mg x = some (.ref C)) (hx : Passes CX X E) (ha : PA X (e :: es) t) (hj : k + 1 ≤ j := by decide) (hg : Gl X x := by rfl) (hdb : (x == ("__debug__" : Str)) = false := by decide) (he : starEach (e :: es) X.env = (false, eval e X.env) :: starEach es X.env := by rfl) (hpl : (backTo pos (starEach es X.env)).any (·.1) = false := by rfl) :
    PE X (.Call (.Name x p) (e :: es) [] pos) (tMake C sp [] E t) := by
  obtain ⟨f, fd, G, M, b⟩ := U.ok
  exact pe_make M (G X.base) (hr.mono hj) hg hm b .nil hx ha hdb he hpl
end

theorem pe_fldK (K : PySem.W.Frag) {X : Cx} (hK : X.K = K) {e : Expr} {f : Str} {pos : Pos} {ta : TE} (he : PE X e ta) (hb : attributeBase e f X.env (eval e X.env) = eval e X.env) : PE X (.Attribute e f pos) (tFld K ta f) := by subst hK; exact pe_fld he hb
theorem ps_fldK (K : PySem.W.Frag) {X : Cx} (hK : X.K = K) {o value : Expr} {f : Str} {pos pos' : Pos} {ta tv : TE} (ha : PE X o ta) (hv : PE X value tv) (hs : swapsWith value (some (.Attribute o f pos')) pos.line X.env = pure false) : PS X (.Assign [.Attribute o f pos'] value pos) (sFld K ta tv f) := by subst hK; exact ps_fld ha hv hs
theorem flU (K : PySem.W.Frag) {X : Cx} {e : Expr} {f : Str} {pos : Pos} {ta : TE} (he : PE X e ta) (hK : X.K = K := by rfl) (hb : attributeBase e f X.env (eval e X.env) = eval e X.env := by rfl) : PE X (.Attribute e f pos) (tFld K ta f) := pe_fldK K hK he hb
theorem sfU (K : PySem.W.Frag) {X : Cx} {o value : Expr} {f : Str} {pos pos' : Pos} {ta tv : TE} (ha : PE X o ta) (hv : PE X value tv) (hK : X.K = K := by rfl) (hs : swapsWith value (some (.Attribute o f pos')) pos.line X.env = pure false := by rfl) : PS X (.Assign [.Attribute o f pos'] value pos) (sFld K ta tv f) := ps_fldK K hK ha hv hs
end L2


set_option linter.all false
set_option maxRecDepth 100000
set_option maxHeartbeats 4000000
namespace L2
open PySem PySem.Spec PyProof.Rows
section
variable {X : Cx}
end

end L2


set_option linter.all false
set_option maxRecDepth 100000
set_option maxHeartbeats 4000000
namespace L2
open PySem PySem.Spec PyProof.Rows
section
variable {X : Cx}

end

end L2


set_option linter.all false
set_option maxRecDepth 100000
set_option maxHeartbeats 4000000
namespace L2
open PySem PySem.Spec PyProof.Rows
section
variable {X : Cx}

end
end L2


set_option linter.all false
set_option maxRecDepth 100000
set_option maxHeartbeats 4000000
namespace FR
open PySem L2
mutual
def _root_.L2.D.short : D → Bool
  | .str z => decide (z.length ≤ 1000)
  | .lst ds => shortS ds
  | .tup ds => shortS ds
  | _ => true
def shortS : List D → Bool
  | [] => true
  | d :: ds => d.short && shortS ds
end
theorem line1000 {n : Nat} (h : n ≤ 1000) : n ≤ sizeLine := Nat.le_trans h (by rw [sizeLine_eq]; decide)
def isListD : D → Bool | .lst _ => true | _ => false
def isBoolD : D → Bool | .bl _ => true | _ => false
def isIntD : D → Bool | .int _ => true | .bl _ => true | _ => false
section
variable {K : PySem.W.Frag}
theorem kit_int (d : D) : PySem.W.kitOne K (.type (tyD d)) (.type "int") = some (isIntD d) := by cases d <;> kernel_rfl
theorem kit_bool (d : D) : PySem.W.kitOne K (.type (tyD d)) (.type "bool") = some (isBoolD d) := by cases d <;> kernel_rfl
theorem kit_list (d : D) : PySem.W.kitOne K (.type (tyD d)) (.type "list") = some (isListD d) := by cases d <;> kernel_rfl
end
end FR


set_option linter.all false
set_option maxRecDepth 100000
set_option maxHeartbeats 4000000
namespace FR
open PySem L2
end FR


set_option linter.all false
set_option maxRecDepth 100000
set_option maxHeartbeats 4000000
namespace FR
open PySem L2
theorem depS_bound : ∀ {xs : List D} {n : Nat}, (∀ d ∈ xs, d.dep ≤ n) → depS xs ≤ n
  | [], n, _ => by unfold depS; exact Nat.zero_le _
  | x :: xs, n, h => by
    unfold depS
    exact Nat.max_le.mpr ⟨h x List.mem_cons_self, depS_bound fun d hd => h d (List.mem_cons_of_mem _ hd)⟩
theorem ok_lst {xs : List D} (h : ∀ d ∈ xs, d.ok = true) : (D.lst xs).ok = true := by unfold D.ok; exact okS_of h
theorem dep_lst {xs : List D} {n : Nat} (h : ∀ d ∈ xs, d.dep ≤ n) : (D.lst xs).dep ≤ n + 1 := by unfold D.dep; exact Nat.succ_le_succ (depS_bound h)
end FR


set_option linter.all false
set_option maxRecDepth 100000
set_option maxHeartbeats 4000000
namespace FR
open PySem L2

inductive spSelf_ (v : V) (vs : List V) (H : Hp) (Q : VK) : Prop where
  | mk (s : _) (h0_ : vs = [s]) (h1_ : Q v H) : spSelf_ v vs H Q
def spSelf (v : V) : Sp := fun vs H Q E_ => spSelf_ v vs H Q
end FR


set_option linter.all false
set_option maxRecDepth 100000
set_option maxHeartbeats 4000000
namespace FR
open PySem L2
end FR


set_option linter.all false
set_option maxRecDepth 100000
set_option maxHeartbeats 4000000
namespace L2
open PySem PySem.Spec PyProof.Rows
section
variable {X : Cx} {pins : List (Addr × Obj)} {σ : St} {H : Hp} {s : Shared} {d : Addr} {o : Obj} {kvs : List (Key × V)}
end
theorem KV.get {kvs : List (Key × V)} {vs : List (Key × Value)} (r : KV kvs vs) : ∀ {i : Nat} {kv : Key × V}, kvs[i]? = some kv → ∃ u, vs[i]? = some (kv.1, u) ∧ RelV kv.2 u := by
  unfold KV at r
  induction r with
  | nil => intro i kv e; cases e
  | @cons p q ps qs h t ih =>
    intro i kv e
    cases i with
    | zero =>
      cases e
      exact ⟨q.2, by rw [h.1]; rfl, h.2⟩
    | succ j => exact ih (i := j) e

section
variable {X : Cx} {elts : List Expr} {k : Nat} {tpos : Pos}
end

end L2


set_option linter.all false
set_option maxRecDepth 100000
set_option maxHeartbeats 4000000
namespace L2
open PySem PySem.Spec PyProof.Rows
end L2


set_option linter.all false
set_option maxRecDepth 100000
set_option maxHeartbeats 4000000
namespace L2
open PySem PySem.Spec PyProof.Rows
section
variable {prog : Program} {w : World} {A : Around} {E : Value → Shared → Prop} {s : Shared}

end
end L2


set_option linter.all false
set_option maxRecDepth 100000
set_option maxHeartbeats 4000000
namespace L2
open PySem PySem.Spec PyProof.Rows
section
variable {prog : Program} {w : World} {A : Around} {E : Value → Shared → Prop} {s : Shared}
end
end L2


set_option linter.all false
set_option maxRecDepth 100000
set_option maxHeartbeats 4000000
namespace L2
open PySem PySem.Spec PyProof.Rows
section
variable {X : Cx} {tg : Expr}
end
end L2


set_option linter.all false
set_option maxRecDepth 100000
set_option maxHeartbeats 4000000
namespace L2
open PySem PySem.Spec PyProof.Rows
section
variable {prog : Program} {w : World} {A : Around} {E : Value → Shared → Prop} {s : Shared}
end

section
variable {X : Cx} {elts : List Expr} {k : Nat} {tpos : Pos}
end
end L2


set_option linter.all false
set_option maxRecDepth 100000
set_option maxHeartbeats 4000000
namespace L2
open PySem PySem.Spec PyProof.Rows
section
variable {X : Cx} {pins : List (Addr × Obj)} {σ : St} {H : Hp} {s : Shared} {a b : Addr} {kvs : List (List Key × V)} {k : List Key} {u r : Value} {v : V} {A : Around} {E : Value → Shared → Prop}

end

section
variable {X : Cx} {o e f : Expr} {apos cpos : Pos} {td ty tx : TE}
end
end L2


set_option linter.all false
set_option maxRecDepth 100000
set_option maxHeartbeats 4000000
namespace L2
open PySem PySem.Spec PyProof.Rows
section
variable {X : Cx} {elts : List Expr} {k : Nat} {tpos : Pos}
end
end L2


set_option linter.all false
set_option maxRecDepth 100000
set_option maxHeartbeats 4000000
namespace L2
open PySem PySem.Spec PyProof.Rows
section
variable {X : Cx} {pins : List (Addr × Obj)} {σ : St} {H : Hp} {s : Shared} {d : Addr} {kvs : List (List Key × V)}
end
section
variable {X : Cx}

end
end L2


set_option linter.all false
set_option maxRecDepth 100000
set_option maxHeartbeats 4000000
namespace L2
open PySem PySem.Spec PyProof.Rows
section
variable {prog : Program} {w : World} {A : Around} {E : Value → Shared → Prop} {s : Shared}

end

theorem KT.get {H : Hp} {kvs : List (List Key × V)} {xs : List (List Key × Addr × Value)} (r : KT H kvs xs) : ∀ {i : Nat} {kv : List Key × V}, kvs[i]? = some kv → ∃ b u, xs[i]? = some (kv.1, b, u) ∧ H b = some (.tup (kv.1.map kV)) ∧ RelV kv.2 u := by
  unfold KT at r
  induction r with
  | nil => intro i kv e; cases e
  | @cons p q ps qs h t ih =>
    intro i kv e
    cases i with
    | zero =>
      cases e
      exact ⟨q.2.1, q.2.2, by rw [h.1]; rfl, h.2.1, h.2.2⟩
    | succ j => exact ih (i := j) e
section
variable {X : Cx} {elts : List Expr} {k : Nat} {tpos : Pos}
end
end L2


set_option linter.all false
set_option maxRecDepth 100000
set_option maxHeartbeats 4000000
namespace L2
open PySem PySem.Spec PyProof.Rows
section
variable {X : Cx} {tg : Expr}
end
end L2


set_option linter.all false
set_option maxRecDepth 100000
set_option maxHeartbeats 4000000
namespace L2
open PySem PySem.Spec PyProof.Rows
section
variable {prog : Program} {w : World} {A : Around} {E : Value → Shared → Prop} {s : Shared}

end

section
variable {X : Cx} {tg : Expr}
end
section
variable {prog : Program} {w : World} {d : Addr} {od : Obj} {es : Array DictEntry} {ep : Nat}
end

section
variable {X : Cx} {o e f : Expr} {apos cpos : Pos} {td ty tx : TE}
end
end L2


set_option linter.all false
set_option maxRecDepth 100000
set_option maxHeartbeats 4000000
namespace L2
open PySem PySem.Spec PyProof.Rows
end L2


set_option linter.all false
set_option maxRecDepth 100000
set_option maxHeartbeats 4000000
namespace L2
open PySem PySem.Spec PyProof.Rows PySem.AutoSeq1
section
variable {X : Cx}
end
end L2


set_option linter.all false
set_option maxRecDepth 100000
set_option maxHeartbeats 4000000
namespace L2
open PySem PySem.Spec PyProof.Rows
end L2


set_option linter.all false
set_option maxRecDepth 100000
set_option maxHeartbeats 4000000
namespace L2
open PySem PySem.Spec PyProof.Rows
section
variable {X : Cx} {pins : List (Addr × Obj)} {σ : St} {H : Hp} {s : Shared} {d : Addr} {xs : List V}
end
end L2


set_option linter.all false
set_option maxRecDepth 100000
set_option maxHeartbeats 4000000
namespace L2
open PySem PySem.Spec PyProof.Rows
def Dn (K : PySem.W.Frag) (x : Str) (f : Addr) : Prop := PySem.W.nsIn K mainGlobals x = some (some (.ref f))
def Zn (K : PySem.W.Frag) (x : Str) : Prop := PySem.W.nsIn K mainGlobals x = some none
def On (K : PySem.W.Frag) (c : Addr) (x : Str) : Prop := PySem.W.findIn K (.ref c) x = some none
inductive An (K : PySem.W.Frag) (c : Addr) (x : Str) (f : Addr) : Prop
  | mk : PySem.W.findIn K (.ref c) x = some (some (.ref f)) → PySem.W.isFn K (.ref f) = true → An K c x f
inductive Ln (K : PySem.W.Frag) (x q : Str) (st : Stmt) (f : Addr) : Prop
  | mk {oc : Value} {od an : Option Addr} {osl : Array (Option Value)} {kV doc pm cdv ct : Value} : K.lookup f = some ⟨oc, od, .func (PySem.W.fnOf x q (defArgs st) (defBody st) (defScope st) .none kV doc pm an cdv ct), osl⟩ → PySem.W.codeIn K cdv q = true → PySem.W.keepIn K (.ref f) = true → Ln K x q st f
theorem Ln.ex {K : PySem.W.Frag} {x q : Str} {st : Stmt} {f : Addr} : Ln K x q st f → ∃ fd, Fun K x q st f fd
  | .mk l c k => ⟨_, fun_mk l c k⟩
def Pn : Nat → (List Value → Prop) → Prop
  | 0, P => P []
  | n + 1, P => ∀ a, Pn n fun us => P (a :: us)
theorem bn : ∀ (n : Nat) {P : List Value → Prop}, Pn n P → ∀ us : List Value, us.length = n → P us
  | 0, _, h, [], _ => h
  | 0, _, _, _ :: _, e => by cases e
  | _ + 1, _, _, [], e => by cases e
  | n + 1, _, h, a :: us, e => bn n (h a) us (Nat.succ.inj e)
section
variable (P : Program) (w : World) {K : PySem.W.Frag} {mg : Str → Option Value} {CX : CXT} {k : Nat} {x q : Str} {st : Stmt} {C f : Addr} {fd : FuncData} {ps : List Str} {sp : Sp}
theorem us (m : mg x = some (.ref f)) (F : Fun K x q st f fd) (o : ∀ base, FnOk P w K mg base CX k f fd ps sp) (b : ∀ (kV doc pm : Value) (an : Option Addr) (cdv ct : Value) (us : List Value), us.length = ps.length → bindArgs (PySem.W.fnOf x q (defArgs st) (defBody st) (defScope st) .none kV doc pm an cdv ct) ⟨us, []⟩ = pure (ps.zip us)) : Used P w K mg CX k x ps sp := ⟨⟨f, fd, o, m, F.kp, F.binds b⟩⟩
theorem usM (a : An K C x f) (F : Fun K x q st f fd) (o : ∀ base, FnOk P w K mg base CX k f fd ps sp) (b : ∀ (kV doc pm : Value) (an : Option Addr) (cdv ct : Value) (us : List Value), us.length = ps.length → bindArgs (PySem.W.fnOf x q (defArgs st) (defBody st) (defScope st) .none kV doc pm an cdv ct) ⟨us, []⟩ = pure (ps.zip us)) : UsedM P w K mg CX k C x ps sp := by
  cases a with
  | mk a j => exact ⟨⟨f, fd, o, ⟨a, j, F.kp⟩, F.binds b⟩⟩
end

structure HE (P : Program) (w : World) (K : PySem.W.Frag) (h : Heap) (mg : Str → Option Value) : Prop where
  X : K.In h
  G : h.Ns mainGlobals mg
inductive DL (K : PySem.W.Frag) (x : Str) (st : Stmt) (f : Addr) : Prop
  | mk : PySem.W.nsIn K mainGlobals x = some (some (.ref f)) → Ln K x x st f → DL K x st f
inductive AL (K : PySem.W.Frag) (c : Addr) (x q : Str) (st : Stmt) (f : Addr) : Prop
  | mk : An K c x f → Ln K x q st f → AL K c x q st f
inductive CL (K : PySem.W.Frag) (c : Addr) : Prop
  | mk : PySem.W.plainGet K c Str.empty = true → PySem.W.hasDictIn K c = true → PySem.W.plainOver K c = true → PySem.W.findIn K (.ref c) "__setattr__" = some (some (.builtin "object.__setattr__")) → CL K c
theorem CL.of {K : PySem.W.Frag} {c : Addr} : CL K c → Cls K c
  | .mk a b c d => ⟨a, b, c, d⟩
section
variable {P : Program} {w : World} {K : PySem.W.Frag} {h : Heap} {mg : Str → Option Value} {CX : CXT} {k : Nat} {x q : Str} {st : Stmt} {C f : Addr} {ps : List Str} {sp : Sp}
theorem usD (E : HE P w K h mg) (d : DL K x st f) (o : Gd P w K mg CX k x x st ps sp) (b : ∀ (kV doc pm : Value) (an : Option Addr) (cdv ct : Value) (us : List Value), us.length = ps.length → bindArgs (PySem.W.fnOf x x (defArgs st) (defBody st) (defScope st) .none kV doc pm an cdv ct) ⟨us, []⟩ = pure (ps.zip us) := by intro _ _ _ _ _ _; first | exact bn 1 fun _ => rfl | exact bn 2 fun _ _ => rfl | exact bn 3 fun _ _ _ => rfl | exact bn 4 fun _ _ _ _ => rfl | exact bn 5 fun _ _ _ _ _ => rfl | exact bn 0 rfl | exact bn 6 fun _ _ _ _ _ _ => rfl | exact bn 7 fun _ _ _ _ _ _ _ => rfl) : Used P w K mg CX k x ps sp := by
  cases d with
  | mk a l =>
    obtain ⟨fd, F⟩ := l.ex
    exact us P w (PySem.W.mg_of E.X E.G a) F (fun _ => o F) b
theorem usA (E : HE P w K h mg) (d : AL K C x q st f) (o : Gd P w K mg CX k x q st ps sp) (b : ∀ (kV doc pm : Value) (an : Option Addr) (cdv ct : Value) (us : List Value), us.length = ps.length → bindArgs (PySem.W.fnOf x q (defArgs st) (defBody st) (defScope st) .none kV doc pm an cdv ct) ⟨us, []⟩ = pure (ps.zip us) := by intro _ _ _ _ _ _; first | exact bn 1 fun _ => rfl | exact bn 2 fun _ _ => rfl | exact bn 3 fun _ _ _ => rfl | exact bn 4 fun _ _ _ _ => rfl | exact bn 5 fun _ _ _ _ _ => rfl | exact bn 0 rfl | exact bn 6 fun _ _ _ _ _ _ => rfl | exact bn 7 fun _ _ _ _ _ _ _ => rfl) : UsedM P w K mg CX k C x ps sp := by
  cases d with
  | mk a l =>
    obtain ⟨fd, F⟩ := l.ex
    exact usM P w a F (fun _ => o F) b
end
end L2


set_option linter.all false
set_option maxRecDepth 100000
set_option maxHeartbeats 4000000
namespace L2
open PySem PySem.Spec PyProof.Rows
section
variable {prog : Program} {w : World} {A : Around} {E : Value → Shared → Prop} {s : Shared} {T : String} {r d : Addr} {n : Nat} {P : Nat → Value → Prop} {OK : Heap → Prop}

end
section
variable {X : Cx}
end
end L2


set_option linter.all false
set_option maxRecDepth 100000
set_option maxHeartbeats 4000000
namespace HT
open PySem PyProof.Rows
open PySem.SeqAt
open PySem.AutoSeq1 (wpAny_loadPart')
open PySem.MeetsSeq PySem.MeetsSeq2 PySem.MeetsSeq3
theorem intsAre_drop {items : Array Value} {i : Nat} {ns : List Int} (h : IntsAre (items.toList.drop i) ns) (hi : i ≤ items.size) : (ns = [] ∧ items.size = i ∧ items[i]? = none) ∨ ∃ a t ns', ns = a :: ns' ∧ i < items.size ∧ items[i]? = some (.int a t) ∧ IntsAre (items.toList.drop (i + 1)) ns' := by
  by_cases hlt : i < items.size
  · have hl : i < items.toList.length := by simpa using hlt
    rw [List.drop_eq_getElem_cons hl] at h
    have e : items[i]? = some items.toList[i] := by
      rw [Array.getElem?_eq_getElem hlt]
      rfl
    revert e h
    generalize items.toList[i] = v
    intro h e
    cases h with
    | cons a t h' => exact .inr ⟨a, t, _, rfl, hlt, e, h'⟩
  · refine .inl ⟨?_, by lia, by simp; lia⟩
    rw [List.drop_eq_nil_of_le (by simp; lia)] at h
    cases h
    rfl
theorem list_lt_loop (l b : Addr) (items items2 : Array Value) (n n2 : Nat) (dd dd2 : Option Addr) (sl sl2 : Array (Option Value)) (k : Nat) :
    ∀ (i : Nat) (ns ms : List Int), items.size - i = k → i ≤ items.size → i ≤ items2.size → IntsAre (items.toList.drop i) ns → IntsAre (items2.toList.drop i) ms → Meets (Builtin.«list.__eq__.loop» ⟨[.ref l, .ref b, rawInt i, rawInt 0], []⟩)
      (fun _ R s => s.heap.get? l = some { cls := .type "list", dict := dd, data := .seq items n, slots := sl } ∧ s.heap.get? b = some { cls := .type "list", dict := dd2, data := .seq items2 n2, slots := sl2 } ∧
        R (.ok (.ret (.bool (lexLt ns ms)))) s) := by
  induction k with
  | zero =>
    intro i ns ms hk h1 h2 hi hj prog w A R s h
    obtain ⟨hp, g, d, tk, os⟩ := s; obtain ⟨hl, hb, h⟩ := h
    rcases intsAre_drop hi h1 with ⟨rfl, z1, z2⟩ | ⟨a, t, ns', _, hlt, _⟩
    · wp_walk using wpAny_loadPart' hl, wpAny_loadPart' hb
      have e1 : items[((i : Nat) : Int).toNat]? = none := by simpa using z2
      rw [e1]
      rcases intsAre_drop hj h2 with ⟨rfl, y1, y2⟩ | ⟨c, u, ms', rfl, ylt, y2, y3⟩
      · have e2 : items2[((i : Nat) : Int).toNat]? = none := by simpa using y2
        rw [e2]
        wp_walk using wpAny_loadPart' hl, wpAny_loadPart' hb
        show R (.ok (.ret (.bool (decide (items.size < items2.size))))) _
        rw [decide_eq_false (by lia)]
        exact h
      · have e2 : items2[((i : Nat) : Int).toNat]? = some (.int c u) := by simpa using y2
        rw [e2]
        wp_walk using wpAny_loadPart' hl, wpAny_loadPart' hb
        show R (.ok (.ret (.bool (decide (items.size < items2.size))))) _
        rw [decide_eq_true (by lia)]
        exact h
    · lia
  | succ k ih =>
    intro i ns ms hk h1 h2 hi hj prog w A R s h
    obtain ⟨hp, g, d, tk, os⟩ := s; obtain ⟨hl, hb, h⟩ := h
    rcases intsAre_drop hi h1 with ⟨_, z1, _⟩ | ⟨a, t, ns', rfl, zlt, z2, z3⟩
    · lia
    wp_walk using wpAny_loadPart' hl, wpAny_loadPart' hb
    have e1 : items[((i : Nat) : Int).toNat]? = some (.int a t) := by simpa using z2
    rw [e1]
    rcases intsAre_drop hj h2 with ⟨rfl, y1, y2⟩ | ⟨c, u, ms', rfl, ylt, y2, y3⟩
    · have e2 : items2[((i : Nat) : Int).toNat]? = none := by simpa using y2
      rw [e2]
      wp_walk using wpAny_loadPart' hl, wpAny_loadPart' hb
      show R (.ok (.ret (.bool (decide (items.size < items2.size))))) _
      rw [decide_eq_false (by lia)]
      exact h
    · have e2 : items2[((i : Nat) : Int).toNat]? = some (.int c u) := by simpa using y2
      have hc : ((i : Int) + 1) = ((i + 1 : Nat) : Int) := by push_cast; rfl
      rw [e2]
      rw [lexLt_cons] at h
      obtain ⟨e, he, hiff⟩ := eqAt_int A.in1 ⟨hp, g, d, tk, os⟩ a t c u
      refine wpAny_bind (he prog w _ _ ?_)
      cases e with
      | true =>
        rw [if_pos (hiff.mp rfl)] at h
        wp_walk
        rw [hc]
        exact ⟨plainId_quiet plain_eq_loop _, codeAny_builtin entry_eq_loop (by
          rw [Around.under_plainId plain_eq_loop _]
          exact ih (i + 1) ns' ms' (by lia) (by lia) (by lia) z3 y3 prog w A R _ ⟨hl, hb, h⟩)⟩
      | false =>
        rw [if_neg (fun q => absurd (hiff.mpr q) Bool.false_ne_true)] at h
        have hri := rcLt_int A.in1 ⟨hp, g, d, tk, os⟩ a t c u prog w
        wp_walk using wpAny_loadPart' hl, wpAny_loadPart' hb
        rw [e1, e2]
        wp_walk using hri
        exact h
theorem list_lt_ints (l b : Addr) (items items2 : Array Value) (n n2 : Nat) (dd dd2 : Option Addr) (sl sl2 : Array (Option Value)) (ns ms : List Int) (hi : IntsAre items.toList ns) (hj : IntsAre items2.toList ms) :
    Meets (Builtin.«list.__lt__» ⟨[.ref l, .ref b], []⟩)
      (fun _ R s => s.heap.get? l = some { cls := .type "list", dict := dd, data := .seq items n, slots := sl } ∧ s.heap.get? b = some { cls := .type "list", dict := dd2, data := .seq items2 n2, slots := sl2 } ∧
        R (.ok (.ret (.bool (lexLt ns ms)))) s) := by
  intro prog w A R s h
  obtain ⟨hp, g, d, tk, os⟩ := s; obtain ⟨hl, hb, h⟩ := h
  have f3 := AutoSeq1.sub_list_list
  wp_walk using wpAny_loadPart' hl, wpAny_loadPart' hb
  exact ⟨plainId_quiet plain_eq_loop _, codeAny_builtin entry_eq_loop (by
    rw [Around.under_plainId plain_eq_loop _]
    exact list_lt_loop l b items items2 n n2 dd dd2 sl sl2 _ 0 ns ms rfl (Nat.zero_le _) (Nat.zero_le _) hi hj prog w A R _ ⟨hl, hb, h⟩)⟩
section
variable {prog : Program} {w : World} {A : Around} {E : Value → Shared → Prop} {s : Shared}
end
end HT
namespace L2
open PySem PyProof.Rows
section
variable {X : Cx}
end
end L2


set_option linter.all false
set_option maxRecDepth 100000
set_option maxHeartbeats 4000000
namespace L2
open PySem PySem.Spec PyProof.Rows

def Parts (l : List Nat) (j i : Nat) : Prop := i ≤ l.length ∧ (∀ k x, k < i → l[k]? = some x → x < j) ∧ ∀ k x, i ≤ k → l[k]? = some x → j ≤ x
theorem Parts.uniq {l : List Nat} {j i i' : Nat} (a : Parts l j i) (b : Parts l j i') : i = i' := by
  rcases Nat.lt_trichotomy i i' with h | h | h
  · have hl : i < l.length := Nat.lt_of_lt_of_le h b.1
    have h1 := a.2.2 i _ (Nat.le_refl _) (List.getElem?_eq_getElem hl)
    have h2 := b.2.1 i _ h (List.getElem?_eq_getElem hl)
    lia
  · exact h
  · have hl : i' < l.length := Nat.lt_of_lt_of_le h a.1
    have h1 := b.2.2 i' _ (Nat.le_refl _) (List.getElem?_eq_getElem hl)
    have h2 := a.2.1 i' _ h (List.getElem?_eq_getElem hl)
    lia
theorem rise_at {l : List Nat} (hr : l.Pairwise (· < ·)) {a b x y : Nat} (h : a < b) (ha : l[a]? = some x) (hb : l[b]? = some y) : x < y := by
  obtain ⟨h1, rfl⟩ := List.getElem?_eq_some_iff.mp ha
  obtain ⟨h2, rfl⟩ := List.getElem?_eq_some_iff.mp hb
  exact List.pairwise_iff_getElem.mp hr a b h1 h2 h
theorem below_go {xs : Array Nat} {j : Nat} (hr : xs.toList.Pairwise (· < ·)) : ∀ (fuel lo hi : Nat), hi - lo ≤ fuel → lo ≤ hi → hi ≤ xs.size → (∀ k x, k < lo → xs.toList[k]? = some x → x < j) → (∀ k x, hi ≤ k → xs.toList[k]? = some x → j ≤ x) →
    Parts xs.toList j (SetTable.below.go xs j fuel lo hi)
  | 0, lo, hi, hf, h1, h2, a, b => by
    have e : lo = hi := by lia
    subst e
    exact ⟨by rw [Array.length_toList]; exact h2, a, b⟩
  | fuel + 1, lo, hi, hf, h1, h2, a, b => by
    unfold SetTable.below.go
    by_cases h : lo < hi
    · rw [if_pos h]
      have hm : (lo + hi) / 2 < xs.size := by lia
      have hml : lo ≤ (lo + hi) / 2 ∧ (lo + hi) / 2 < hi := by lia
      have eg : xs.toList[(lo + hi) / 2]? = some xs[(lo + hi) / 2] := by rw [Array.getElem?_toList]; exact Array.getElem?_eq_getElem hm
      have ed : xs.getD ((lo + hi) / 2) j = xs[(lo + hi) / 2] := by simp [Array.getD, hm]
      dsimp only
      rw [ed]
      by_cases hc : xs[(lo + hi) / 2] < j
      · rw [if_pos hc]
        refine below_go hr fuel _ _ (by lia) (by lia) h2 (fun k x hk hx => ?_) b
        rcases Nat.lt_or_ge k ((lo + hi) / 2) with z | z
        · exact Nat.lt_trans (rise_at hr z hx eg) hc
        · have e : k = (lo + hi) / 2 := by lia
          subst e
          rw [eg] at hx
          cases hx
          exact hc
      · rw [if_neg hc]
        refine below_go hr fuel _ _ (by lia) (by lia) (by lia) a (fun k x hk hx => ?_)
        rcases Nat.lt_or_ge ((lo + hi) / 2) k with z | z
        · have := rise_at hr z eg hx
          lia
        · have e : k = (lo + hi) / 2 := by lia
          subst e
          rw [eg] at hx
          cases hx
          lia
    · rw [if_neg h]
      have e : lo = hi := by lia
      subst e
      exact ⟨by rw [Array.length_toList]; exact h2, a, b⟩
theorem below_parts {xs : Array Nat} (j : Nat) (hr : xs.toList.Pairwise (· < ·)) : Parts xs.toList j (SetTable.below xs j) :=
  below_go hr _ _ _ (Nat.le_refl _) (Nat.zero_le _) (Nat.le_refl _) (fun k _ h => absurd h (Nat.not_lt_zero k)) fun k x h e => by
    rw [Array.getElem?_toList, Array.getElem?_eq_none h] at e
    cases e
theorem put_rise {l : List Nat} {j i : Nat} (hr : l.Pairwise (· < ·)) (p : Parts l j i) (hn : l[i]? ≠ some j) : (l.take i ++ j :: l.drop i).Pairwise (· < ·) := by
  have e : l.take i ++ l.drop i = l := List.take_append_drop i l
  have hr' := hr
  rw [← e, List.pairwise_append] at hr'
  refine List.pairwise_append.mpr ⟨hr'.1, List.pairwise_cons.mpr ⟨fun y hy => ?_, hr'.2.1⟩, fun x hx y hy => ?_⟩
  · obtain ⟨k, hk, rfl⟩ := List.mem_iff_getElem.mp hy
    rw [List.length_drop] at hk
    have hk' : (l.drop i)[k]? = some (l.drop i)[k] := List.getElem?_eq_getElem (by rw [List.length_drop]; exact hk)
    have hk2 := hk'
    rw [List.getElem?_drop] at hk2
    have h1 := p.2.2 _ _ (Nat.le_add_right i k) hk2
    rcases Nat.lt_or_ge j (l.drop i)[k] with z | z
    · exact z
    · exfalso
      have ee : (l.drop i)[k] = j := Nat.le_antisymm z h1
      cases k with
      | zero => rw [ee] at hk2; exact hn hk2
      | succ k =>
        have hi : i < l.length := by lia
        have h3 := p.2.2 i _ (Nat.le_refl _) (List.getElem?_eq_getElem hi)
        have h4 := rise_at hr (show i < i + (k + 1) by lia) (List.getElem?_eq_getElem hi) hk2
        lia
  · obtain ⟨k, hk, rfl⟩ := List.mem_iff_getElem.mp hx
    have hk1 : k < i := by rw [List.length_take] at hk; lia
    have hx' : l[k]? = some (l.take i)[k] := by rw [← List.getElem?_eq_getElem hk, List.getElem?_take_of_lt hk1]
    have h1 := p.2.1 k _ hk1 hx'
    rcases List.mem_cons.mp hy with rfl | hy
    · exact h1
    · exact hr'.2.2 _ hx _ hy

structure TbOk (led : Bool) (n : Nat) (t : SetTable) : Prop where
  ris : t.place.toList.Pairwise (· < ·)
  dum : t.dummies = #[]
  led : t.led = led
  fit : t.fits n = true
section
variable {led : Bool} {n : Nat} {t : SetTable} {es : Array (Int × Value)}
theorem TbOk.fresh (led : Bool) : TbOk led 0 (SetTable.fresh 0 0 led) := ⟨List.Pairwise.nil, rfl, rfl, rfl⟩
theorem TbOk.off (h : TbOk led n t) : TbOk led n { t with plain := false } := ⟨h.ris, h.dum, h.led, by have := h.fit; cases t; exact this⟩
theorem TbOk.stand (h : t.led = led) (m : Nat) : TbOk led m (t.standIn m) := ⟨by
  show (Array.range m).toList.Pairwise _
  rw [Array.toList_range]
  exact List.pairwise_lt_range, rfl, h, SetTable.standIn_fits t m⟩
theorem go_slot {f : Nat → Int} {h : Int} {j : Nat} {d : Option Nat} (hd : t.dummies = #[]) : ∀ (fuel : Nat) (p : SetTable.Probe), p.dummy = none → SetTable.probe.go t f h fuel p = some (.empty j d) → d = none ∧ t.slot j = .empty
  | 0, p, _, e => by cases e
  | fuel + 1, p, hp, e => by
    unfold SetTable.probe.go at e
    have hadv : ∀ q : SetTable.Probe, q.dummy = none → (t.advance q).dummy = none := fun q hq => by
      unfold SetTable.advance
      split <;> exact hq
    cases hs : t.slot p.j with
    | empty =>
      rw [hs] at e
      injection e with e
      injection e with e1 e2
      subst e1 e2
      exact ⟨hp, hs⟩
    | dummy =>
      exfalso
      unfold SetTable.slot at hs
      dsimp only at hs
      split at hs
      · cases hs
      · rw [hd] at hs
        cases hs
    | live i =>
      rw [hs] at e
      dsimp only at e
      split at e
      · injection e with e
        cases e
      · exact go_slot hd fuel _ (hadv p hp) e
theorem freeSlot_empty (h : TbOk led n t) {x : Int} {j : Nat} {b : Bool} (e : t.freeSlot x = some (j, b)) : t.slot j = .empty := by
  unfold SetTable.freeSlot at e
  split at e
  · rename_i j' d hp
    obtain ⟨rfl, hs⟩ := go_slot h.dum _ _ rfl hp
    injection e with e
    injection e with e1 e2
    subst e1
    exact hs
  · cases e
theorem slot_empty {j : Nat} (e : t.slot j = .empty) : t.place.toList[SetTable.below t.place j]? ≠ some j := by
  intro h
  unfold SetTable.slot at e
  dsimp only at e
  rw [← Array.getElem?_toList, h] at e
  simp at e
theorem layNew_ok (h : TbOk led es.size t) (x : Int) (v : Value) : TbOk led (layNew t es x v).1.size (layNew t es x v).2.1 := by
  unfold layNew
  cases hf : t.freeSlot x with
  | none =>
    dsimp only
    rw [Array.size_push]
    exact TbOk.stand h.led _
  | some q =>
    obtain ⟨j, b⟩ := q
    have hs := slot_empty (freeSlot_empty h hf)
    dsimp only
    have hpl : (t.put j).1.place.toList.Pairwise (· < ·) := by
      show (SetTable.insertAt t.place _ j).toList.Pairwise _
      rw [SetTable.toList_insertAt]
      exact put_rise h.ris (below_parts j h.ris) hs
    have hdm : (t.put j).1.dummies = #[] := by
      show (if SetTable.has t.dummies j = true then _ else t.dummies) = #[]
      rw [h.dum]
      rfl
    unfold SetTable.orStandIn
    split
    · rename_i hfit
      exact ⟨hpl, hdm, h.led, hfit⟩
    · exact TbOk.stand (t := (t.put j).1) h.led _
theorem live_rise (owner : Array (Option Nat)) : ∀ (m : Nat), (((List.range m).filterMap fun j => (owner.getD j none).map (j, ·)).map (·.1)).Pairwise (· < ·) ∧ ∀ y ∈ ((List.range m).filterMap fun j => (owner.getD j none).map (j, ·)).map (·.1), y < m
  | 0 => ⟨List.Pairwise.nil, fun y h => nomatch h⟩
  | m + 1 => by
    obtain ⟨a, b⟩ := live_rise owner m
    rw [List.range_succ, List.filterMap_append, List.map_append]
    have key : ∀ y ∈ ([m].filterMap fun j => (owner.getD j none).map (j, ·)).map (·.1), y = m := fun y hy => by
      obtain ⟨p, hp, rfl⟩ := List.mem_map.mp hy
      obtain ⟨q, hq, e⟩ := List.mem_filterMap.mp hp
      rw [List.mem_singleton.mp hq] at e
      obtain ⟨u, _, rfl⟩ := Option.map_eq_some_iff.mp e
      rfl
    refine ⟨List.pairwise_append.mpr ⟨a, ?_, fun x hx y hy => by rw [key y hy]; exact b x hx⟩, fun y hy => ?_⟩
    · have one : ∀ f : Nat → Option (Nat × Nat), (([m].filterMap f).map (·.1)).Pairwise (· < ·) := fun f => by
        rw [List.filterMap_cons]
        cases f m <;> simp
      exact one _
    · rcases List.mem_append.mp hy with hy | hy
      · exact Nat.lt_succ_of_lt (b y hy)
      · rw [key y hy]
        exact Nat.lt_succ_self _
theorem relayAll_ok (h : TbOk led es.size t) (m : Nat) : TbOk led (relayAll t es m).1.size (relayAll t es m).2.1 := by
  unfold relayAll
  split
  · rename_i t' order hrl
    dsimp only
    split
    · rename_i hc
      simp only [Bool.and_eq_true] at hc
      unfold SetTable.relaid SetTable.laid at hrl
      cases ho : SetTable.layClean (SetTable.sizeAbove m - 1) (es.map (·.1)) with
      | none => rw [ho] at hrl; cases hrl
      | some owner =>
        rw [ho] at hrl
        injection hrl with hrl
        injection hrl with e1 e2
        subst e1
        exact ⟨by
          show ((List.map _ _).toArray).toList.Pairwise _
          rw [List.toList_toArray]
          exact (live_rise owner _).1, rfl, h.led, hc.2⟩
    · exact TbOk.stand h.led _
  · exact TbOk.stand h.led _
end
end L2


set_option linter.all false
set_option maxRecDepth 100000
set_option maxHeartbeats 4000000
namespace L2
open PySem PySem.Spec PyProof.Rows

def NumEls (P : Program) (w : World) (l : List (Int × Value)) : Prop := ∀ e ∈ l, ∃ n t, e = ((intKind P w).hash n, Value.int n t)
def numsE (l : List (Int × Value)) : List Int := l.map fun e => numOf e.2

def SetI (P : Program) (w : World) (h : Heap) (a : Addr) (ns : List Int) : Prop :=
  ∃ o es ep t, h.get? a = some o ∧ o.ExactSet ∧ o.data = .set es ep t ∧ TbOk (!w.params.followText "set-order") es.size t ∧ NumEls P w es.toList ∧ (numsE es.toList).Perm ns ∧ ns.length < 4000
section
variable {P : Program} {w : World} {A : Around} {E : Value → Shared → Prop} {s : Shared} {a : Addr} {ns : List Int}
theorem NumEls.els {l : List (Int × Value)} (h : NumEls P w l) : ElemsOf (intKind P w) l := fun e he => by
  obtain ⟨n, t, rfl⟩ := h e he
  exact ⟨⟨n, intKind_is .., rfl⟩, rfl⟩
theorem setI_size {es : Array (Int × Value)} (h : (numsE es.toList).Perm ns) : es.size = ns.length := by
  rw [← h.length_eq]
  simp [numsE]
theorem store_at {h : Heap} {o : Obj} {es es' : Array (Int × Value)} {ep : Nat} {t t' : SetTable} (ho : h.get? a = some o) (hd : o.data = .set es ep t) : (h.update a (Obj.putSet es' t')).get? a = some { o with data := .set es' (ep + 1) t' } := by
  have e := Heap.get?_update_self (Obj.putSet es' t') ho (by rw [putSet_of es' t' hd]; rfl)
  rwa [putSet_of es' t' hd] at e
theorem addTail {o : Obj} {es es1 : Array (Int × Value)} {ep : Nat} {t t2 : SetTable} {b : Bool} {R : Option Bool → Shared → Prop} {g : Bool → Sem Unit} (hg : ∀ (b : Bool) (s1 : Shared) (Q : Unit → Shared → Prop), Q () s1 → wpAny (model P w) A (g b) Q E s1)
    (ho : s.heap.get? a = some o) (hx : o.ExactSet) (hd : o.data = .set es ep t) (h1 : TbOk (!w.params.followText "set-order") es1.size t2) (he : NumEls P w es1.toList) (hp : (numsE es1.toList).Perm ns) (hz : ns.length < 4000)
    (h : ∀ h', Heap.SameBut a s.heap h' → SetI P w h' a ns → R (some true) { s with heap := h' }) :
    wpAny (model P w) A (storeSet a es1 t2 >>= fun _ => if (!b && t2.tooFull) = true then (g (relayAll t2 es1 (SetTable.grown es1.size)).2.2 >>= fun _ => storeSet a (relayAll t2 es1 (SetTable.grown es1.size)).1 (relayAll t2 es1 (SetTable.grown es1.size)).2.1 >>= fun _ => pure (some true)) else pure (some true)) R E s := by
  have hs1 : es1.size ≤ sizeLine := by rw [setI_size hp, sizeLine_eq]; lia
  refine wpAny_bind (wpAny_storeSet_of ho hd ?_ hs1)
  have ho1 : (s.heap.update a (Obj.putSet es1 t2)).get? a = some { o with data := .set es1 (ep + 1) t2 } := store_at ho hd
  have sb := Heap.SameBut.update s.heap a (Obj.putSet es1 t2)
  by_cases hc : (!b && t2.tooFull) = true
  · rw [if_pos hc]
    have rp := relayAll_perm t2 es1 (SetTable.grown es1.size)
    have rk := relayAll_ok h1 (SetTable.grown es1.size)
    generalize relayAll t2 es1 (SetTable.grown es1.size) = r at rp rk ⊢
    obtain ⟨es2, t3, gv⟩ := r
    dsimp only at rp rk ⊢
    have hp2 : (numsE es2.toList).Perm ns := (rp.map _).trans hp
    refine wpAny_bind (hg _ _ _ (wpAny_bind (wpAny_storeSet_of ho1 rfl (wpAny_pure (h _ (sb.trans (Heap.SameBut.update _ a _)) ⟨_, es2, _, t3, store_at ho1 rfl, hx, rfl, rk, fun e z => he e (rp.mem_iff.mp z), hp2, hz⟩)) ?_)))
    rw [setI_size hp2, sizeLine_eq]
    lia
  · rw [if_neg hc]
    exact wpAny_pure (h _ sb ⟨_, es1, _, t2, ho1, hx, rfl, h1, he, hp, hz⟩)
theorem setI_add {k : Int} {tk : Tok} {Q : Bool → Shared → Prop} (hS : SetI P w s.heap a ns) (hl : ns.length + 1 < 4000)
    (h : ∀ b h', Heap.SameBut a s.heap h' → SetI P w h' a (if k ∈ ns then ns else k :: ns) → Q b { s with heap := h' }) : wpAny (model P w) A (setAddHashed a (.int k tk) ((intKind P w).hash k)) Q E s := by
  obtain ⟨o, es, ep, t, ho, hx, hd, ht, he, hp, hz⟩ := hS
  have hE := he.els
  have hsz := setI_size hp
  have hin : ∀ m : Int, m ∈ ns ↔ ∃ e ∈ es.toList, (intKind P w).is m e.2 = true := fun m => by
    rw [← hp.mem_iff]
    unfold numsE
    constructor
    · intro hm
      obtain ⟨e, h1, rfl⟩ := List.mem_map.mp hm
      obtain ⟨n, u, rfl⟩ := he e h1
      exact ⟨_, h1, intKind_is ..⟩
    · rintro ⟨e, h1, h2⟩
      obtain ⟨n, u, rfl⟩ := he e h1
      rw [(intKind P w).inj _ m n h2 (intKind_is ..)]
      exact List.mem_map.mpr ⟨_, h1, rfl⟩
  unfold setAddHashed setAddHashedIn
  refine wpAny_holding (wpAny_bind (wpAny_setState_of ho hd ht.fit ?_))
  dsimp only
  rw [byScan_of (knd := intKind P w) rfl (by unfold scanBound; lia) hE]
  simp only [if_true]
  unfold setAddByScan
  refine wpAny_bind (wpAny_bind (wpAny_rule (wpAny_bind (wpAny_setScan_of (knd := intKind P w) (k := k) (intKind_is ..) ho hd ht.fit hE ?_))))
  cases hr : es.toList.findIdx? (fun e => (intKind P w).is k e.2) with
  | some j =>
    dsimp only
    obtain ⟨hj, hpj, _⟩ := List.findIdx?_eq_some_iff_getElem.mp hr
    have hk : k ∈ ns := (hin k).mpr ⟨_, List.getElem_mem hj, hpj⟩
    rw [if_pos hk] at h
    have e : s = { s with heap := s.heap } := rfl
    rw [e]
    exact wpAny_pure (wpAny_pure (h _ _ (Heap.SameBut.refl a s.heap) ⟨o, es, ep, t, ho, hx, hd, ht, he, hp, hz⟩))
  | none =>
    dsimp only
    have hk : k ∉ ns := fun z => by
      obtain ⟨e, h1, h2⟩ := (hin k).mp z
      have := List.findIdx?_eq_none_iff.mp hr e h1
      rw [h2] at this
      cases this
    rw [if_neg hk] at h
    have hg : ∀ (b : Bool) (s1 : Shared) (Q' : Unit → Shared → Prop), Q' () s1 → wpAny (model P w) A (match b with | true => rule "set.scan.the-table-gave-way" | false => pure ()) Q' E s1 := fun b s1 Q' z => by
      cases b
      · exact wpAny_pure z
      · exact wpAny_rule z
    have lp := layNew_perm t es ((intKind P w).hash k) (.int k tk)
    have lk := layNew_ok ht ((intKind P w).hash k) (.int k tk)
    generalize layNew t es ((intKind P w).hash k) (.int k tk) = L at lp lk ⊢
    obtain ⟨es1, t1, wd, gv⟩ := L
    dsimp only at lp lk ⊢
    rw [Array.toList_push] at lp
    have he1 : NumEls P w es1.toList := fun e z => by
      rcases List.mem_append.mp (lp.mem_iff.mp z) with z | z
      · exact he e z
      · rw [List.mem_singleton.mp z]
        exact ⟨k, tk, rfl⟩
    have hp1 : (numsE es1.toList).Perm (k :: ns) := by
      refine (lp.map _).trans ?_
      rw [List.map_append]
      exact (List.perm_append_comm).trans (List.Perm.cons k hp)
    refine wpAny_bind (hg _ _ _ ?_)
    have hl1 : (k :: ns).length < 4000 := hl
    have fin : ∀ t2, TbOk (!w.params.followText "set-order") es1.size t2 → wpAny (model P w) A (storeSet a es1 t2 >>= fun _ => if (!wd && t2.tooFull) = true then ((match (relayAll t2 es1 (SetTable.grown es1.size)).2.2 with | true => rule "set.scan.the-table-gave-way" | false => pure ()) >>= fun _ => storeSet a (relayAll t2 es1 (SetTable.grown es1.size)).1 (relayAll t2 es1 (SetTable.grown es1.size)).2.1 >>= fun _ => pure (some true)) else pure (some true))
        (fun r s1 => wpAny (model P w) A (match r with | some b => pure b | none => setAddHashedIn a (.int k tk) ((intKind P w).hash k) 99999) Q E s1) E s := fun t2 h2 => addTail hg ho hx hd h2 he1 hp1 hl1 fun h' sb z => wpAny_pure (h _ h' sb z)
    split
    · refine wpAny_bind ?_
      rw [hashByValue_scannable 8 rfl]
      exact wpAny_pure (fin _ (by split; exact lk; exact lk.off))
    · exact wpAny_bind (wpAny_pure (fin _ (by rw [if_pos rfl]; exact lk)))
end
end L2


set_option linter.all false
set_option maxRecDepth 100000
set_option maxHeartbeats 4000000
namespace L2
open PySem PySem.Spec PyProof.Rows
def addD (acc : List Int) (k : Int) : List Int := if k ∈ acc then acc else k :: acc
theorem addD_nodup {acc : List Int} (h : acc.Nodup) (k : Int) : (addD acc k).Nodup := by
  unfold addD
  split
  · exact h
  · rename_i z
    exact List.nodup_cons.mpr ⟨z, h⟩
theorem mem_addD {acc : List Int} {k m : Int} : m ∈ addD acc k ↔ m ∈ acc ∨ m = k := by
  unfold addD
  split
  · rename_i z
    exact ⟨.inl, fun h => h.elim id fun e => by rw [e]; exact z⟩
  · rw [List.mem_cons]
    exact Or.comm
theorem addD_len (acc : List Int) (k : Int) : (addD acc k).length ≤ acc.length + 1 := by
  unfold addD
  split
  · exact Nat.le_succ _
  · exact Nat.le_refl _
def dedI (ns : List Int) : List Int := ns.foldl addD []
theorem dedI_snoc (ns : List Int) (k : Int) : dedI (ns ++ [k]) = addD (dedI ns) k := by unfold dedI; rw [List.foldl_append]; rfl
theorem foldD_mem : ∀ (ns acc : List Int) (m : Int), m ∈ ns.foldl addD acc ↔ m ∈ acc ∨ m ∈ ns
  | [], acc, m => ⟨.inl, fun h => h.elim id fun z => nomatch z⟩
  | k :: ns, acc, m => by
    rw [List.foldl_cons, foldD_mem ns, mem_addD, List.mem_cons, or_assoc]
theorem foldD_nodup : ∀ (ns acc : List Int), acc.Nodup → (ns.foldl addD acc).Nodup
  | [], _, h => h
  | k :: ns, acc, h => foldD_nodup ns _ (addD_nodup h k)
theorem foldD_len : ∀ (ns acc : List Int), (ns.foldl addD acc).length ≤ acc.length + ns.length
  | [], _ => Nat.le_refl _
  | k :: ns, acc => by
    have h1 := foldD_len ns (addD acc k)
    have h2 := addD_len acc k
    rw [List.foldl_cons, List.length_cons]
    lia
theorem dedI_mem {ns : List Int} {m : Int} : m ∈ dedI ns ↔ m ∈ ns := (foldD_mem ns [] m).trans ⟨fun h => h.elim (fun z => nomatch z) id, .inr⟩
theorem dedI_nodup (ns : List Int) : (dedI ns).Nodup := foldD_nodup ns [] List.nodup_nil
theorem dedI_len (ns : List Int) : (dedI ns).length ≤ ns.length := by have := foldD_len ns []; rwa [List.length_nil, Nat.zero_add] at this
theorem entry_sul : entryFor table "set.update.loop" = some Builtin.«set.update.loop» := entryFor_of_tree (by kernel_rfl)
theorem plain_sul : plainId "set.update.loop" = true := by decide +kernel
abbrev setO (led : Bool) : Obj := { cls := .type "set", dict := none, data := .set #[] 0 (.fresh 0 0 led) }
section
variable {P : Program} {w : World} {A : Around} {E : Value → Shared → Prop} {s : Shared}
theorem SetI.kept {h h' : Heap} {a : Addr} {ns : List Int} (z : SetI P w h a ns) (k : ∀ o, h.get? a = some o → h'.get? a = some o) : SetI P w h' a ns := by
  obtain ⟨o, es, ep, t, ho, r⟩ := z
  exact ⟨o, es, ep, t, k o ho, r⟩
theorem set_new1 (v : Value) {Q : Value → Shared → Prop} (h : Q (.ref s.heap.objs.size) { s with heap := s.heap.push { cls := .type "set", dict := none, data := .set #[] 0 (.fresh 0 0 (!w.params.followText "set-order")) } }) :
    codeAny (model P w) A (.call (.builtin "set.__new__") ⟨[.type "set", v], []⟩) (wants Q E) s := by
  refine codeAny_of_tree (show wpAny _ A.in1 (checkBuiltinCall "set.__new__" ⟨[.type "set", v], []⟩ >>= fun _ => again (.builtin "set.__new__" ⟨[.type "set", v], []⟩)) _ _ s from ?_)
  refine wpAny_bind (wpAny_of_eq (F.newCall_set_1 v) (wpAny_pure ⟨plainId_quiet F.plain_set_new _, codeAny_builtin F.entry_set_new ?_⟩))
  rw [Around.under_plainId F.plain_set_new _]
  have hq := sub_set_self
  obtain ⟨hp, g, d, tk, os⟩ := s
  unfold Builtin.«set.__new__» Builtin.Frozenset.newClass
  dsimp only
  wp_walk
  refine wpAny_askSetting (wpAny_pure ?_)
  simp only [newObj]
  exact wpAny_bind (wpAny_alloc (wpAny_pure (wpAny_pure h)))
theorem upd_loop {R : Result → Shared → Prop} {I : Addr} {fp wr : List Addr} {G : Array GenState → Array GenState → Prop} {n : Nat} {Pv : Nat → Value → Prop} {St : Nat → Shared → Prop} (W : WalksS P w A.in1 I fp wr G n Pv St) (S : Addr) (hf : S ∉ fp) (ns : List Int) (hn : ns.length = n) (h4 : n < 3999)
    (hv : ∀ i v, Pv i v → ∃ k t, ns[i]? = some k ∧ v = .int k t) : ∀ (k i : Nat) (s : Shared), n - i = k → i ≤ n → St i s → SetI P w s.heap S (dedI (ns.take i)) →
      (∀ s', Moved (S :: wr) G s s' → SetI P w s'.heap S (dedI ns) → R (.ok (.ret .none)) s') → codeAny (model P w) A (.builtin "set.update.loop" ⟨[.ref S, .ref I], []⟩) R s := by
  have hw : S ∉ wr := fun z => hf (W.sub _ z)
  have hsub : ∀ b ∈ wr, b ∈ S :: wr := fun b z => List.mem_cons_of_mem _ z
  intro k
  induction k with
  | zero =>
    intro i s hk hi st hS hR
    have e : i = n := by lia
    subst e
    refine codeAny_builtin entry_sul ?_
    rw [Around.under_plainId plain_sul _]
    refine (show wpAny _ A.in1 (pyNext (.ref I) >>= _) _ _ s from wpAny_bind (W.done s _ _ st fun s' hm => ?_))
    refine (show wpAny _ A.in1 (ret Value.none) _ _ s' from wpAny_pure (hR s' (hm.mono hsub) ?_))
    rw [← hn, List.take_length] at hS
    exact hS.kept fun o e => hm.heap S o hw e
  | succ k ih =>
    intro i s hk hi st hS hR
    have hlt : i < n := by lia
    refine codeAny_builtin entry_sul ?_
    rw [Around.under_plainId plain_sul _]
    refine (show wpAny _ A.in1 (pyNext (.ref I) >>= _) _ _ s from wpAny_bind (W.item i s _ _ hlt st fun v s' hP st' hm => ?_))
    obtain ⟨m, t, hm2, rfl⟩ := hv i v hP
    refine (show wpAny _ A.in1 (holding [Value.int m t] (setAdd S (.int m t)) >>= _) _ _ s' from wpAny_bind (wpAny_holding ?_))
    unfold setAdd
    refine wpAny_holding (wpAny_bind ((intKind P w).pyHash (k := m) (intKind_is ..) ?_))
    have hlen := dedI_len (ns.take i)
    rw [List.length_take] at hlen
    refine setI_add (s := { s' with toks := s'.toks + 1 }) (hS.kept fun o e => hm.heap S o hw e) (by lia) fun b h' sb hS2 => ?_
    have e2 : dedI (ns.take (i + 1)) = addD (dedI (ns.take i)) m := by rw [List.take_add_one, hm2]; exact dedI_snoc _ _
    refine wpAny_pure ⟨plainId_quiet plain_sul _, ih (i + 1) _ (by lia) hlt (W.frame _ s' _ _ st' (Nat.le_succ _) fun b hb o e => ?_) (by rw [e2]; exact hS2) fun s2 hm3 hS3 => ?_⟩
    · rw [sb.2 b fun z => hf (by rw [← z]; exact hb)]
      exact e
    · refine hR s2 (Moved.trans W.gtrans ((hm.mono hsub).then_heap (Nat.le_succ _) fun b o hb e => ?_) hm3) hS3
      rw [sb.2 b fun z => hb (by rw [z]; exact List.mem_cons_self)]
      exact e
theorem call_setI {l : Addr} {its : Array Value} {ns : List Int} {Q : Value → Shared → Prop} (hh : A.handled = none) (hl : s.heap.IsList l its) (hi : IntsAre its.toList ns) (h4 : ns.length < 3999)
    (h : ∀ (h' : Heap) (tk : Nat), SetI P w h' s.heap.objs.size (dedI ns) → (∀ b o, s.heap.get? b = some o → h'.get? b = some o) → Q (.ref s.heap.objs.size) { s with heap := h', toks := tk }) :
    wpAny (model P w) A (call (.type "set") [.ref l]) Q E s := by
  obtain ⟨c, tl, hmro⟩ := F.called_set.mro
  have hmade := F.called_set.made
  have hsub := F.called_set.sub
  have hsz : its.size = ns.length := by rw [← hi.length, Array.length_toList]
  refine wpAny_call (codeAny_of_tree (show wpAny _ _ (callAny (.type "set") _) _ _ _ from ?_))
  refine wpAny_pure ⟨Code.quiet_builtin _ (by decide +kernel), codeAny_builtin F.entry_type_call ?_⟩
  rw [Around.under_plain (weight_type_call_type "set" [.ref l] []) rfl]
  have h1 := F.called_set.notType
  have h2 := F.called_set.canCreate
  have hct := F.typeCall_set_1 (.ref l)
  repeat (any_goals (first | assumption | wp_step))
  obtain ⟨led, hO⟩ : ∃ led, led = !w.params.followText "set-order" := ⟨_, rfl⟩
  refine codeAny_mono (set_new1 (.ref l) (E := E) (Q := fun obj s1 => obj = .ref s.heap.objs.size ∧ s1 = { s with heap := s.heap.push (setO led) }) (by rw [← hO]; exact ⟨rfl, rfl⟩)) fun r s1 hr => ?_
  cases r with
  | error e => exact hr
  | ok fl =>
    cases fl with
    | ret obj =>
      obtain ⟨rfl, rfl⟩ := hr
      have hS : (s.heap.push (setO led)).get? s.heap.objs.size = some (setO led) := Heap.get?_push_size _ rfl
      have hT : Shared.TypeIs { s with heap := s.heap.push (setO led) } (.ref s.heap.objs.size) "set" := ⟨_, hS, rfl⟩
      have hli := F.called_set.init.lookup
      have hbi := F.called_set.init.bind (.ref s.heap.objs.size)
      repeat (any_goals (first | assumption | wp_step))
      refine codeAny_mono (codeAny_call_builtin (R := wants (fun r s2 => r = .none ∧ ∃ h' tk, s2 = { s with heap := h', toks := tk } ∧ SetI P w h' s.heap.objs.size (dedI ns) ∧ (∀ b o, s.heap.get? b = some o → h'.get? b = some o)) E) F.called_set.init.plain F.entry_set_init (check_set_init_1 hT ?_)) fun r2 s2 hr2 => ?_
      · obtain ⟨ol, hol, hcl, nl, hdl⟩ := hl
        obtain ⟨oc, od, oda, os⟩ := ol
        simp only at hcl hdl
        subst hcl hdl
        have hol2 := Heap.get?_push_of_some (setO led) hol
        have g1 := F.sub_list_set
        have g2 := F.sub_list_frozenset
        have g3 : (Value.type "list" == Value.type "dict") = false := by decide
        have hl1 : (s.heap.push (setO led)).IsList l its := ⟨_, hol2, rfl, nl, rfl⟩
        unfold Builtin.«set.__init__» noKeywords Builtin.Frozenset.updateFrom
        generalize hPI : pyIter = PI
        wp_walk
        subst hPI
        refine wpAny_pyIter_list hl1 ?_
        refine wpAny_bind (wpAny_runValue ?_)
        have hlS : l < s.heap.objs.size := Heap.lt_size hol
        have hsp : (s.heap.push (setO led)).objs.size = s.heap.objs.size + 1 := Heap.size_push ..
        have hne : l ≠ (s.heap.push (setO led)).objs.size := by rw [hsp]; lia
        have hSf : s.heap.objs.size ∉ [(s.heap.push (setO led)).objs.size, l] := by
          rw [hsp]
          simp only [List.mem_cons, List.not_mem_nil, or_false, not_or]
          exact ⟨by lia, by lia⟩
        refine upd_loop ((Walks.list (by simp [hh]) _ l hne its).toS) s.heap.objs.size hSf ns hsz.symm (by lia) (fun i v hv => ?_) (its.size - 0) 0 _ rfl (Nat.zero_le _) ⟨⟨_, Heap.get?_push_size _ rfl, rfl, rfl⟩, hl1.push _⟩ ?_ ?_
        · obtain ⟨t, e⟩ := IntsAre.int_at hi i v (by rw [Array.getElem?_toList]; exact hv)
          have hil : i < ns.length := by rw [← hsz]; exact (Array.getElem?_eq_some_iff.mp hv).1
          exact ⟨ns[i], t, List.getElem?_eq_getElem hil, by rw [e, List.getD_eq_getElem?_getD, List.getElem?_eq_getElem hil]; rfl⟩
        · exact ⟨_, #[], 0, _, Heap.get?_push_of_some _ hS, ⟨rfl, rfl, rfl⟩, rfl, hO ▸ TbOk.fresh led, (fun e z => nomatch z), List.Perm.refl _, by show 0 < 4000; decide⟩
        · intro s' hm hS'
          obtain ⟨h', g', d', tk', os'⟩ := s'
          have eg : g' = s.gens := hm.gens
          have ed : d' = s.drawn := hm.drawn
          have eo : os' = s.os := hm.os
          subst eg ed eo
          refine (show wpAny _ _ _ _ _ _ from wpAny_pure (show wpAny _ _ (ret Value.none) _ _ _ from wpAny_pure ⟨rfl, h', tk', rfl, hS', fun b o e => ?_⟩))
          have hb := Heap.lt_size e
          refine hm.heap b o ?_ (Heap.get?_push_of_some _ (Heap.get?_push_of_some _ e))
          rw [hsp]
          simp only [List.mem_cons, List.not_mem_nil, or_false, not_or]
          exact ⟨by lia, by lia⟩
      · cases r2 with
        | error e => exact hr2
        | ok fl2 =>
          cases fl2 with
          | ret r =>
            obtain ⟨rfl, h', tk, rfl, hS', hk'⟩ := hr2
            repeat (any_goals (first | assumption | wp_step))
            exact h _ _ hS' hk'
          | _ => exact hr2.elim
    | _ => exact hr.elim
end
end L2


set_option linter.all false
set_option maxRecDepth 100000
set_option maxHeartbeats 4000000
namespace L2
open PySem PySem.Spec PyProof.Rows
theorem erase_perm {α : Type} : ∀ {l : List α} {i : Nat} (h : i < l.length), (l[i] :: l.eraseIdx i).Perm l
  | x :: l, 0, _ => .refl _
  | x :: l, i + 1, h => (List.Perm.swap x _ _).trans (.cons x (erase_perm (Nat.lt_of_succ_lt_succ h)))
section
variable {P : Program} {w : World} {A : Around} {E : Value → Shared → Prop} {s : Shared} {α : Type}
theorem wp_pick {src : Source} {n : Nat} {Q : Nat → Shared → Prop} (hn : n ≠ 0) (h : ∀ i d, i < n → Q i { s with drawn := d }) : wpAny (model P w) A (choose src n) Q E s := fun Γ p hΓ => by
  exact ⟨hn, h _ _ (Nat.mod_lt _ (Nat.pos_of_ne_zero hn))⟩
theorem draw_any : ∀ (n : Nat) (xs : List α) (s : Shared) (Q : List α → Shared → Prop), xs.length = n → (∀ ys d, ys.Perm xs → Q ys { s with drawn := d }) → wpAny (model P w) A (drawOrder n xs) Q E s
  | 0, xs, s, Q, hn, h => by
    have e : xs = [] := List.eq_nil_of_length_eq_zero hn
    subst e
    exact wpAny_pure (h [] s.drawn (.refl _))
  | n + 1, [], s, Q, hn, h => nomatch hn
  | n + 1, x :: xs, s, Q, hn, h => by
    unfold drawOrder
    refine wpAny_bind (wp_pick (by rw [hn]; lia) fun i d hi => ?_)
    rw [List.getElem?_eq_getElem hi]
    dsimp only
    refine wpAny_bind (draw_any n _ _ _ (by rw [List.length_eraseIdx, if_pos hi, hn]; rfl) fun ys d2 hp => wpAny_pure (h _ d2 ?_))
    exact (List.Perm.cons _ hp).trans (erase_perm hi)
end
theorem pick_go {α : Type} (next : Nat → Nat) : ∀ (fuel k : Nat) (left : List α) (out : Array α), left.length = fuel → (pickOrder.go next fuel k left out).toList.Perm (out.toList ++ left)
  | 0, k, left, out, h => by
    have e : left = [] := List.eq_nil_of_length_eq_zero h
    subst e
    unfold pickOrder.go
    rw [List.append_nil]
  | fuel + 1, k, left, out, h => by
    unfold pickOrder.go
    have hlt : next k % left.length < left.length := Nat.mod_lt _ (by lia)
    rw [List.getElem?_eq_getElem hlt]
    dsimp only
    refine (pick_go next fuel (k + 1) _ _ (by rw [List.length_eraseIdx, if_pos hlt]; lia)).trans ?_
    rw [Array.toList_push, List.append_assoc]
    exact List.Perm.append_left _ (erase_perm hlt)
theorem pick_perm {α : Type} (next : Nat → Nat) (xs : Array α) : (pickOrder next xs).toList.Perm xs.toList := by
  have := pick_go next xs.size 0 xs.toList #[] Array.length_toList
  exact this

def SetIt (h : Heap) (it : Addr) (first : Value) (i : Nat) (S : Addr) (n ep : Nat) : Prop := h.get? it = some { cls := .type "set_iterator", dict := none, data := .fields #[first, .int i 0, .ref S, .int n 0, .int ep 0], slots := #[] }
theorem slot_setnext : Slot "set_iterator" "__next__" "set_iterator.__next__" :=
  .of (owner := "set_iterator") (n := "__next__") (by rw [typeLookup_type, builtinLookup_eq_fast]; kernel_rfl) (by decide +kernel) (by decide +kernel) (by decide +kernel)
    (by first | exact .inl (by decide +kernel) | exact .inr (by decide +kernel)) (by rw [isSubtype_type]; kernel_rfl)
theorem entry_setnext : entryFor table "set_iterator.__next__" = some Builtin.«set_iterator.__next__» := entryFor_of_tree (by kernel_rfl)
theorem owner_setit : Manifest.owners.lookup (String.ofList ['r', 'o', 't', 'a', 'r', 'e', 't', 'i', '_', 't', 'e', 's'].reverse) = some Manifest.sig_set_iterator := by kernel_rfl
theorem args_setnext (a : Value) : argsOk "set_iterator.__next__" ⟨[a], []⟩ := by
  unfold argsOk; rw [signature?_of (id := "set_iterator.__next__") (n := ['_', '_', 't', 'x', 'e', 'n', '_', '_']) (o := ['r', 'o', 't', 'a', 'r', 'e', 't', 'i', '_', 't', 'e', 's']) (by kernel_rfl) owner_setit]; kernel_rfl
theorem slot_setself : Slot "set_iterator" "__iter__" "set_iterator.__iter__" :=
  .of (owner := "set_iterator") (n := "__iter__") (by rw [typeLookup_type, builtinLookup_eq_fast]; kernel_rfl) (by decide +kernel) (by decide +kernel) (by decide +kernel)
    (by first | exact .inl (by decide +kernel) | exact .inr (by decide +kernel)) (by rw [isSubtype_type]; kernel_rfl)
theorem entry_setself : entryFor table "set_iterator.__iter__" = some Builtin.«dict_keyiterator.__iter__» := entryFor_alias (id' := "dict_keyiterator.__iter__") (by kernel_rfl) rfl (by decide +kernel) (by kernel_rfl)
theorem args_setself (a : Value) : argsOk "set_iterator.__iter__" ⟨[a], []⟩ := by
  unfold argsOk; rw [signature?_of (id := "set_iterator.__iter__") (n := ['_', '_', 'r', 'e', 't', 'i', '_', '_']) (o := ['r', 'o', 't', 'a', 'r', 'e', 't', 'i', '_', 't', 'e', 's']) (by kernel_rfl) owner_setit]; kernel_rfl
theorem entry_setiter : entryFor table "set.__iter__" = some Builtin.«frozenset.__iter__» := entryFor_alias (id' := "frozenset.__iter__") (by kernel_rfl) rfl (by decide +kernel) (by kernel_rfl)
section
variable {P : Program} {w : World} {A : Around} {E : Value → Shared → Prop} {s : Shared} {it S : Addr} {first : Value} {i n ep : Nat} {es : Array (Int × Value)} {t : SetTable} {os : Obj}
theorem SetIt.ty (h : SetIt s.heap it first i S n ep) : s.TypeIs (.ref it) "set_iterator" := ⟨_, h, rfl⟩
theorem setit_self {Q : Value → Shared → Prop} (h : SetIt s.heap it first i S n ep) (q : Q (.ref it) s) : wpAny (model P w) A (pyIter (.ref it)) Q E s := by
  refine wpAny_pyIter_slot h.ty slot_setself (wpAny_call_entry slot_setself h.ty entry_setself ?_ (args_setself _))
  exact (show wpAny _ _ (ret (.ref it)) _ _ s from wpAny_pure ⟨_, rfl, "set_iterator", _, h.ty, slot_setnext.lookup, q⟩)

theorem set_next {sl nx : Nat} {x : Value} {Q : Option Value → Shared → Prop} (hit : SetIt s.heap it (.int sl 0) i S n ep) (ho : s.heap.get? S = some os) (hd : os.data = .set es ep t) (hf : t.fits es.size = true) (hn : es.size = n)
    (hx : ∀ (A : Around) (R : Option (Value × Nat) → Shared → Prop) (E : Value → Shared → Prop), R (some (x, nx)) s → wpAny (model P w) A (setNext S sl i ep) R E s)
    (q : ∀ h', SetIt h' it (.int nx 0) (i + 1) S n ep → Heap.SameBut it s.heap h' → Q (some x) { s with heap := h' }) : wpAny (model P w) A (pyNext (.ref it)) Q E s := by
  subst hn
  unfold pyNext
  refine wpAny_bind (wpAny_attempt (wpAny_callSpecial?_slot (name := Str.ofString "__next__") hit.ty slot_setnext (wpAny_call_entry slot_setnext hit.ty entry_setnext ?_ (args_setnext _))))
  unfold Builtin.«set_iterator.__next__»
  refine wpAny_bind (wpAny_pure (wpAny_bind (wpAny_fieldsOf hit rfl ?_)))
  dsimp only
  refine wpAny_bind (wpAny_bind (wpAny_setState_of ho hd hf (wpAny_pure ?_)))
  rw [if_neg (by simp), Int.toNat_natCast, Int.toNat_natCast, Int.toNat_natCast]
  refine wpAny_bind (hx _ _ _ ?_)
  dsimp only
  refine wpAny_bind (wpAny_setField_rec hit (by simp) fun h1 g1 s1 => wpAny_bind (wpAny_setField_rec g1 (by simp) fun h2 g2 s2 => ?_))
  exact wpAny_pure ⟨_, rfl, wpAny_pure (q h2 g2 (s1.trans s2))⟩

theorem set_stop {h1 : Heap} {B : Around} {Q : Option Value → Shared → Prop} (hh : A.handled = none) (hB : B.handled = none) (q : ∀ h', (∀ b o, h1.get? b = some o → h'.get? b = some o) → Q none { s with heap := h' }) :
    wpAny (model P w) B (newExc (.type "StopIteration") [] >>= raiseNew) (fun fin s' => ∃ v, fin = Fin.done (Flow.ret v) ∧ wpAny (model P w) A (pure (some v)) Q E s') (fun e s' => wpAny (model P w) A (isInstance e (.type "StopIteration") >>= fun b => if b = true then pure none else throw e) Q E s') { s with heap := h1 } := by
  refine wpAny_bind ?_
  simp only [newExc, newTuple]
  refine wpAny_bind (wpAny_newObj_type ?_ (by size_fits))
  refine wpAny_bind (m := firstArgMember _ _) (wpAny_of_eq (a := Value.none) (by first | rfl | (simp only [firstArgMember]; rfl)) ?_)
  refine wpAny_newObj_type ?_ (by size_fits)
  simp only [raiseNew]
  refine wpAny_bind (wpAny_handled ?_)
  rw [hB]
  refine wpAny_bind (wpAny_pure (wpAny_throw ?_))
  refine wpAny_bind (wpAny_isInstance (T := "StopIteration") (b := true) ⟨_, Heap.get?_push_size _ rfl, rfl⟩ isSubtype_stop ?_)
  exact wpAny_pure (q _ fun b o e => Heap.get?_push_of_some _ (Heap.get?_push_of_some _ e))
theorem set_end {sl : Nat} {Q : Option Value → Shared → Prop} (hh : A.handled = none) (hit : SetIt s.heap it (.int sl 0) i S n ep) (ho : s.heap.get? S = some os) (hd : os.data = .set es ep t) (hf : t.fits es.size = true) (hn : es.size = n)
    (hx : ∀ (A : Around) (R : Option (Value × Nat) → Shared → Prop) (E : Value → Shared → Prop), R none s → wpAny (model P w) A (setNext S sl i ep) R E s)
    (q : ∀ h', (∀ b o, b ≠ it → s.heap.get? b = some o → h'.get? b = some o) → Q none { s with heap := h' }) : wpAny (model P w) A (pyNext (.ref it)) Q E s := by
  subst hn
  unfold pyNext
  refine wpAny_bind (wpAny_attempt (wpAny_callSpecial?_slot (name := Str.ofString "__next__") hit.ty slot_setnext (wpAny_call_entry slot_setnext hit.ty entry_setnext ?_ (args_setnext _))))
  unfold Builtin.«set_iterator.__next__»
  refine wpAny_bind (wpAny_pure (wpAny_bind (wpAny_fieldsOf hit rfl ?_)))
  dsimp only
  refine wpAny_bind (wpAny_bind (wpAny_setState_of ho hd hf (wpAny_pure ?_)))
  rw [if_neg (by simp), Int.toNat_natCast, Int.toNat_natCast, Int.toNat_natCast]
  refine wpAny_bind (hx _ _ _ ?_)
  dsimp only
  refine wpAny_bind (wpAny_setField_rec hit (by simp) fun h1 g1 s1 => ?_)
  exact set_stop hh hh fun h' k => q h' fun b o hb e => k b o ((s1.2 b hb).trans e)

theorem setd_next {tp : Addr} {ot : Obj} {pl : List Nat} {k pn : Nat} {x : Int × Value} {Q : Option Value → Shared → Prop} (hit : SetIt s.heap it (.ref tp) i S n ep) (ht : s.heap.get? tp = some ot) (htd : ot.data = .seq (pl.map fun (i : Nat) => rawInt i).toArray pn) (ho : s.heap.get? S = some os) (hd : os.data = .set es ep t) (hf : t.fits es.size = true) (hn : es.size = n)
    (hk : pl[i]? = some k) (hx : es[k]? = some x) (q : ∀ h', SetIt h' it (.ref tp) (i + 1) S n ep → Heap.SameBut it s.heap h' → Q (some x.2) { s with heap := h' }) : wpAny (model P w) A (pyNext (.ref it)) Q E s := by
  subst hn
  unfold pyNext
  refine wpAny_bind (wpAny_attempt (wpAny_callSpecial?_slot (name := Str.ofString "__next__") hit.ty slot_setnext (wpAny_call_entry slot_setnext hit.ty entry_setnext ?_ (args_setnext _))))
  unfold Builtin.«set_iterator.__next__»
  refine wpAny_bind (wpAny_pure (wpAny_bind (wpAny_fieldsOf hit rfl ?_)))
  dsimp only
  refine wpAny_bind (wpAny_bind (wpAny_setState_of ho hd hf (wpAny_pure ?_)))
  rw [if_neg (by simp)]
  refine wpAny_bind (wpAny_seqItems ht htd ?_)
  dsimp only
  rw [Int.toNat_natCast, List.getElem?_toArray, List.getElem?_map, hk]
  dsimp only [Option.map, rawInt]
  rw [Int.toNat_natCast, Int.toNat_natCast]
  unfold setNextDrawn
  refine wpAny_bind (wpAny_bind (wpAny_setState_of ho hd hf ?_))
  dsimp only
  rw [if_neg (by simp), hx]
  refine wpAny_pure (wpAny_bind (wpAny_setField_rec hit (by simp) fun h2 g2 s2 => ?_))
  exact wpAny_pure ⟨_, rfl, wpAny_pure (q h2 g2 s2)⟩
theorem setd_end {tp : Addr} {ot : Obj} {pl : List Nat} {pn : Nat} {Q : Option Value → Shared → Prop} (hh : A.handled = none) (hit : SetIt s.heap it (.ref tp) i S n ep) (ht : s.heap.get? tp = some ot) (htd : ot.data = .seq (pl.map fun (i : Nat) => rawInt i).toArray pn) (ho : s.heap.get? S = some os) (hd : os.data = .set es ep t) (hf : t.fits es.size = true) (hn : es.size = n)
    (hk : pl[i]? = none) (q : ∀ h', (∀ b o, b ≠ it → s.heap.get? b = some o → h'.get? b = some o) → Q none { s with heap := h' }) : wpAny (model P w) A (pyNext (.ref it)) Q E s := by
  subst hn
  unfold pyNext
  refine wpAny_bind (wpAny_attempt (wpAny_callSpecial?_slot (name := Str.ofString "__next__") hit.ty slot_setnext (wpAny_call_entry slot_setnext hit.ty entry_setnext ?_ (args_setnext _))))
  unfold Builtin.«set_iterator.__next__»
  refine wpAny_bind (wpAny_pure (wpAny_bind (wpAny_fieldsOf hit rfl ?_)))
  dsimp only
  refine wpAny_bind (wpAny_bind (wpAny_setState_of ho hd hf (wpAny_pure ?_)))
  rw [if_neg (by simp)]
  refine wpAny_bind (wpAny_seqItems ht htd ?_)
  dsimp only
  rw [Int.toNat_natCast, List.getElem?_toArray, List.getElem?_map, hk]
  dsimp only [Option.map]
  refine wpAny_bind (wpAny_setField_rec hit (by simp) fun h1 g1 s1 => wpAny_bind (wpAny_setField_rec g1 (by simp) fun h2 g2 s2 => ?_))
  exact set_stop hh hh fun h' k => q h' fun b o hb e => k b o ((s2.2 b hb).trans ((s1.2 b hb).trans e))
end
end L2


set_option linter.all false
set_option maxRecDepth 100000
set_option maxHeartbeats 4000000
namespace L2
open PySem PySem.Spec PyProof.Rows
def slotAt (pl : List Nat) : Nat → Nat
  | 0 => 0
  | i + 1 => pl.getD i 0 + 1
theorem slotAt_parts {pl : List Nat} (hr : pl.Pairwise (· < ·)) : ∀ (i : Nat), i ≤ pl.length → Parts pl (slotAt pl i) i
  | 0, h => ⟨h, fun k _ z => absurd z (Nat.not_lt_zero k), fun _ _ _ _ => Nat.zero_le _⟩
  | i + 1, h => by
    have hi : i < pl.length := h
    have e : slotAt pl (i + 1) = pl[i] + 1 := by show pl.getD i 0 + 1 = _; rw [List.getD_eq_getElem?_getD, List.getElem?_eq_getElem hi]; rfl
    refine ⟨h, fun k x hk hx => ?_, fun k x hk hx => ?_⟩
    · rw [e]
      rcases Nat.lt_or_ge k i with z | z
      · exact Nat.lt_succ_of_lt (rise_at hr z hx (List.getElem?_eq_getElem hi))
      · have ek : k = i := by lia
        subst ek
        rw [List.getElem?_eq_getElem hi] at hx
        cases hx
        exact Nat.lt_succ_self _
    · rw [e]
      exact rise_at hr hk (List.getElem?_eq_getElem hi) hx
section
variable {P : Program} {w : World} {A : Around} {E : Value → Shared → Prop} {s : Shared} {it S : Addr} {i n ep : Nat} {es : Array (Int × Value)} {t : SetTable} {os : Obj}
theorem byText_run {R : Bool → Shared → Prop} (h : R (w.params.followText "set-order") s) : wpAny (model P w) A setsByText R E s := wpAny_bind (wpAny_askSetting (wpAny_pure h))

theorem next_slots {R : Option (Value × Nat) → Shared → Prop} (hb : w.params.followText "set-order" = false) (ho : s.heap.get? S = some os) (hd : os.data = .set es ep t) (ht : TbOk (!w.params.followText "set-order") es.size t) (hdr : (!t.plain && decide (es.size > 1)) = false) (hi : i ≤ es.size)
    (h : R ((es[i]?).map fun x => (x.2, slotAt t.place.toList (i + 1))) s) : wpAny (model P w) A (setNext S (slotAt t.place.toList i) i ep) R E s := by
  have hpl : t.place.size = es.size := by
    have := ht.fit
    simp only [SetTable.fits, Bool.and_eq_true, beq_iff_eq] at this
    exact this.1
  unfold setNext
  refine wpAny_bind (wpAny_setState_of ho hd ht.fit (wpAny_bind (byText_run ?_)))
  rw [hb]
  dsimp only
  rw [if_neg Bool.false_ne_true]
  refine wpAny_ite_split (fun z => ?_) fun _ => ?_
  · change (!t.plain && decide (es.size > 1)) = true at z
    rw [hdr] at z
    cases z
  · refine wpAny_bind ?_
    refine (show wpAny _ _ (if (!t.led && !es.isEmpty) = true then _ else _) _ _ _ from ?_)
    rw [ht.led, hb, if_neg (by simp)]
    refine wpAny_pure (wpAny_pure ?_)
    have eb : SetTable.below t.place (slotAt t.place.toList i) = i := (below_parts _ ht.ris).uniq (slotAt_parts ht.ris i (by rw [Array.length_toList, hpl]; exact hi))
    rw [eb]
    rcases Nat.lt_or_ge i es.size with z | z
    · have hz : i < t.place.size := by rw [hpl]; exact z
      rw [Array.getElem?_eq_getElem z] at h ⊢
      rw [Array.getElem?_eq_getElem hz]
      have e2 : slotAt t.place.toList (i + 1) = t.place[i] + 1 := by
        show t.place.toList.getD i 0 + 1 = _
        rw [List.getD_eq_getElem?_getD, Array.getElem?_toList, Array.getElem?_eq_getElem hz]
        rfl
      rw [e2] at h
      exact h
    · rw [Array.getElem?_eq_none z] at h ⊢
      exact h

theorem next_text {R : Option (Value × Nat) → Shared → Prop} (hb : w.params.followText "set-order" = true) (ho : s.heap.get? S = some os) (hd : os.data = .set es ep t) (hf : t.fits es.size = true)
    (h : R (((pickOrder (w.params.setOrder S ep) es)[i]?).map fun x => (x.2, 0)) s) : wpAny (model P w) A (setNext S 0 i ep) R E s := by
  unfold setNext
  refine wpAny_bind (wpAny_setState_of ho hd hf (wpAny_bind (byText_run ?_)))
  rw [hb]
  dsimp only
  rw [if_pos rfl, if_neg (by simp)]
  unfold setWalk
  refine wpAny_bind (wpAny_bind (wpAny_setState_of ho hd hf (wpAny_bind (byText_run ?_))))
  rw [hb, if_pos rfl]
  exact wpAny_bind (wpAny_askSetting (wpAny_pure (wpAny_pure h)))
theorem walks_slots (hh : A.handled = none) (hne : S ≠ it) (hb : w.params.followText "set-order" = false) (hd : os.data = .set es ep t) (ht : TbOk (!w.params.followText "set-order") es.size t) (hdr : (!t.plain && decide (es.size > 1)) = false) :
    Walks P w A it [it, S] [it] (es.toList.map (·.2)).length (fun i v => (es.toList.map (·.2))[i]? = some v) (fun i h => SetIt h it (.int (slotAt t.place.toList i) 0) i S es.size ep ∧ h.get? S = some os) where
  sub := fun b z => List.mem_cons.mpr (.inl (List.mem_singleton.mp z))
  frame := fun i h h' st k => ⟨k it (List.mem_cons_self ..) _ st.1, k S (by simp) _ st.2⟩
  item := fun i s Q E hi st q => by
    have hi' : i < es.size := by simpa using hi
    refine set_next st.1 st.2 hd ht.fit rfl (x := es[i].2) (nx := slotAt t.place.toList (i + 1)) (fun A R E z => next_slots hb st.2 hd ht hdr (Nat.le_of_lt hi') (by rw [Array.getElem?_eq_getElem hi']; exact z)) fun h' g sb => q _ h' s.toks (by rw [List.getElem?_map, Array.getElem?_toList, Array.getElem?_eq_getElem hi']; rfl) ⟨g, (sb.2 S hne).trans st.2⟩ fun b o hb' e => (sb.2 b fun z => hb' (List.mem_singleton.mpr z)).trans e
  done := fun s Q E st q => by
    have e : (es.toList.map (·.2)).length = es.size := by simp
    rw [e] at st
    exact set_end hh st.1 st.2 hd ht.fit rfl (fun A R E z => next_slots hb st.2 hd ht hdr (Nat.le_refl _) (by rw [Array.getElem?_eq_none (Nat.le_refl _)]; exact z)) fun h' k => q h' s.toks fun b o hb' e => k b o (fun z => hb' (List.mem_singleton.mpr z)) e
  self := fun i s Q E st q => setit_self st.1 q
theorem walks_text (hh : A.handled = none) (hne : S ≠ it) (hb : w.params.followText "set-order" = true) (hd : os.data = .set es ep t) (hf : t.fits es.size = true) (hz : (pickOrder (w.params.setOrder S ep) es).size = es.size) :
    Walks P w A it [it, S] [it] ((pickOrder (w.params.setOrder S ep) es).toList.map (·.2)).length (fun i v => ((pickOrder (w.params.setOrder S ep) es).toList.map (·.2))[i]? = some v) (fun i h => SetIt h it (.int (0 : Nat) 0) i S es.size ep ∧ h.get? S = some os) where
  sub := fun b z => List.mem_cons.mpr (.inl (List.mem_singleton.mp z))
  frame := fun i h h' st k => ⟨k it (List.mem_cons_self ..) _ st.1, k S (by simp) _ st.2⟩
  item := fun i s Q E hi st q => by
    have hi' : i < (pickOrder (w.params.setOrder S ep) es).size := by simpa using hi
    refine set_next st.1 st.2 hd hf rfl (x := (pickOrder (w.params.setOrder S ep) es)[i].2) (nx := 0) (fun A R E z => next_text hb st.2 hd hf (by rw [Array.getElem?_eq_getElem hi']; exact z)) fun h' g sb => q _ h' s.toks (by rw [List.getElem?_map, Array.getElem?_toList, Array.getElem?_eq_getElem hi']; rfl) ⟨g, (sb.2 S hne).trans st.2⟩ fun b o hb' e => (sb.2 b fun z => hb' (List.mem_singleton.mpr z)).trans e
  done := fun s Q E st q => by
    exact set_end hh st.1 st.2 hd hf rfl (fun A R E z => next_text hb st.2 hd hf (by rw [Array.getElem?_eq_none (by simp)]; exact z)) fun h' k => q h' s.toks fun b o hb' e => k b o (fun z => hb' (List.mem_singleton.mpr z)) e
  self := fun i s Q E st q => setit_self st.1 q
theorem walks_drawn {tp : Addr} {ot : Obj} {pl : List Nat} {pn : Nat} (hh : A.handled = none) (hne : S ≠ it) (hnt : tp ≠ it) (hd : os.data = .set es ep t) (hf : t.fits es.size = true) (htd : ot.data = .seq (pl.map fun (i : Nat) => rawInt i).toArray pn) (hpl : ∀ k ∈ pl, k < es.size) :
    Walks P w A it [it, S, tp] [it] (pl.map fun k => (es.getD k (0, .none)).2).length (fun i v => (pl.map fun k => (es.getD k (0, Value.none)).2)[i]? = some v) (fun i h => SetIt h it (.ref tp) i S es.size ep ∧ h.get? S = some os ∧ h.get? tp = some ot) where
  sub := fun b z => List.mem_cons.mpr (.inl (List.mem_singleton.mp z))
  frame := fun i h h' st k => ⟨k it (List.mem_cons_self ..) _ st.1, k S (by simp) _ st.2.1, k tp (by simp) _ st.2.2⟩
  item := fun i s Q E hi st q => by
    have hi' : i < pl.length := by simpa using hi
    have hk := hpl _ (List.getElem_mem hi')
    refine setd_next st.1 st.2.2 htd st.2.1 hd hf rfl (List.getElem?_eq_getElem hi') (Array.getElem?_eq_getElem hk) fun h' g sb => q _ h' s.toks ?_ ⟨g, (sb.2 S hne).trans st.2.1, (sb.2 tp hnt).trans st.2.2⟩ fun b o hb' e => (sb.2 b fun z => hb' (List.mem_singleton.mpr z)).trans e
    rw [List.getElem?_map, List.getElem?_eq_getElem hi']
    simp [Array.getD, hk]
  done := fun s Q E st q => setd_end hh st.1 st.2.2 htd st.2.1 hd hf rfl (List.getElem?_eq_none (by simp)) fun h' k => q h' s.toks fun b o hb' e => k b o (fun z => hb' (List.mem_singleton.mpr z)) e
  self := fun i s Q E st q => setit_self st.1 q
theorem numEls_ints : ∀ {l : List (Int × Value)}, NumEls P w l → IntsAre (l.map (·.2)) (numsE l)
  | [], _ => .nil
  | e :: l, h => by
    obtain ⟨n, u, rfl⟩ := h e (List.mem_cons_self ..)
    exact .cons n u (numEls_ints fun x z => h x (List.mem_cons_of_mem _ z))

def SetWk (P : Program) (w : World) (A : Around) (h : Heap) (S : Addr) (ns : List Int) (it : Addr) (h' : Heap) : Prop :=
  ∃ (fp : List Addr) (L : List Value) (ms : List Int) (St : Nat → Heap → Prop), (∀ b o, h.get? b = some o → h'.get? b = some o) ∧ h.objs.size ≤ it ∧ (∀ b ∈ fp, b = S ∨ h.objs.size ≤ b) ∧ Walks P w A it fp [it] L.length (fun i v => L[i]? = some v) St ∧ St 0 h' ∧ IntsAre L ms ∧ ms.Perm ns
theorem iter_set {ns : List Int} {Q : Value → Shared → Prop} (hh : A.handled = none) (hS : SetI P w s.heap S ns) (q : ∀ it h' d, SetWk P w A s.heap S ns it h' → Q (.ref it) { s with heap := h', drawn := d }) : wpAny (model P w) A (pyIter (.ref S)) Q E s := by
  obtain ⟨os, es, ep, t, ho, hx, hd, ht, he, hp, hz⟩ := hS
  have hT : s.TypeIs (.ref S) "set" := ⟨os, ho, hx.1⟩
  have hlt := Heap.lt_size ho
  refine wpAny_pyIter_slot hT F.slot_set_iter (wpAny_call_entry F.slot_set_iter hT entry_setiter ?_ (F.args_set_iter_1 _))
  unfold Builtin.«frozenset.__iter__»
  refine wpAny_bind (wpAny_bind (wpAny_pure (wpAny_pure ?_)))
  refine wpAny_bind (wpAny_bind (wpAny_bind (wpAny_setState_of ho hd ht.fit (wpAny_pure (wpAny_pure ?_)))))
  unfold setDrawn
  refine wpAny_bind (wpAny_bind (wpAny_setState_of ho hd ht.fit (wpAny_bind (byText_run (wpAny_pure ?_)))))
  have hsz := setI_size hp
  dsimp only
  refine wpAny_ite_split (fun z => ?_) fun z => ?_
  · rw [Bool.and_eq_true] at z
    refine wpAny_bind (draw_any es.size (List.range es.size) _ _ List.length_range fun pl d hpl => ?_)
    have hll : pl.length = es.size := hpl.length_eq.trans List.length_range
    unfold newTuple
    refine wpAny_bind (wpAny_newObj_type ?_ (by show (pl.map _).toArray.size ≤ _; rw [List.size_toArray, List.length_map, hll, sizeLine_eq]; lia))
    have g1 := fun o => Heap.get?_push_of_some (h := s.heap) o ho
    refine wpAny_bind (wpAny_setEpoch_of (g1 _) hd ht.fit ?_)
    unfold newFields
    refine wpAny_bind (wpAny_newObj_type (wpAny_pure ⟨_, rfl, "set_iterator", _, ⟨_, Heap.get?_push_size _ rfl, rfl⟩, slot_setnext.lookup, q _ _ d ?_⟩) (by size_fits))
    have hm : ∀ k ∈ pl, k < es.size := fun k hk => List.mem_range.mp (hpl.mem_iff.mp hk)
    have h1 : (s.heap.push { cls := .type "tuple", data := .seq (pl.map fun (i : Nat) => rawInt i).toArray }).objs.size = s.heap.objs.size + 1 := Heap.size_push ..
    have eL : (pl.map fun k => (es.getD k (0, Value.none)).2) = (pl.map fun k => es.getD k (0, Value.none)).map (·.2) := by rw [List.map_map]; rfl
    have pe : (pl.map fun k => es.getD k (0, Value.none)).Perm es.toList := by
      refine (hpl.map _).trans (List.Perm.of_eq ?_)
      refine List.ext_getElem? fun j => ?_
      rw [List.getElem?_map, Array.getElem?_toList (xs := es)]
      rcases Nat.lt_or_ge j es.size with z2 | z2
      · rw [List.getElem?_range z2, Array.getElem?_eq_getElem z2]
        simp [Array.getD, z2]
      · rw [List.getElem?_eq_none (by simpa using z2), Array.getElem?_eq_none z2]
        rfl
    refine ⟨_, _, numsE (pl.map fun k => es.getD k (0, Value.none)), _, fun b o e => Heap.get?_push_of_some _ (Heap.get?_push_of_some _ e), by rw [h1]; lia, ?_, walks_drawn (tp := s.heap.objs.size) hh (by rw [h1]; lia) (by rw [h1]; lia) hd ht.fit rfl hm, ⟨Heap.get?_push_size _ rfl, Heap.get?_push_of_some _ (g1 _), Heap.get?_push_of_some _ (Heap.get?_push_size _ rfl)⟩, ?_, (pe.map _).trans hp⟩
    · intro b hb
      rw [h1] at hb
      simp only [List.mem_cons, List.not_mem_nil, or_false] at hb
      lia
    · rw [eL]
      exact numEls_ints fun e z => he e (pe.mem_iff.mp z)
  · refine wpAny_bind (wpAny_pure (wpAny_bind (wpAny_setEpoch_of ho hd ht.fit ?_)))
    unfold newFields
    refine wpAny_bind (wpAny_newObj_type (wpAny_pure ⟨_, rfl, "set_iterator", _, ⟨_, Heap.get?_push_size _ rfl, rfl⟩, slot_setnext.lookup, q _ _ s.drawn ?_⟩) (by size_fits))
    have hfp : ∀ b ∈ [s.heap.objs.size, S], b = S ∨ s.heap.objs.size ≤ b := fun b hb => by
      simp only [List.mem_cons, List.not_mem_nil, or_false] at hb
      lia
    cases hb : w.params.followText "set-order" with
    | false =>
      have hdr : (!t.plain && decide (es.size > 1)) = false := by
        rw [hb] at z
        change ¬ ((!false && (!t.plain && decide (es.size > 1))) = true) at z
        simpa using z
      exact ⟨_, _, _, _, fun b o e => Heap.get?_push_of_some _ e, Nat.le_refl _, hfp, walks_slots hh (Nat.ne_of_lt hlt) hb hd ht hdr, ⟨Heap.get?_push_size _ rfl, Heap.get?_push_of_some _ ho⟩, numEls_ints he, hp⟩
    | true =>
      have pp := pick_perm (w.params.setOrder S ep) es
      have pz : (pickOrder (w.params.setOrder S ep) es).size = es.size := by rw [← Array.length_toList, pp.length_eq, Array.length_toList]
      exact ⟨_, _, _, _, fun b o e => Heap.get?_push_of_some _ e, Nat.le_refl _, hfp, walks_text hh (Nat.ne_of_lt hlt) hb hd ht.fit pz, ⟨Heap.get?_push_size _ rfl, Heap.get?_push_of_some _ ho⟩, numEls_ints fun e z => he e (pp.mem_iff.mp z), (pp.map _).trans hp⟩
theorem hint_set {Q : Bool → Shared → Prop} (hT : s.TypeIs (.ref S) "set") (h : Q false s) : wpAny (model P w) A (Builtin.List.listLengthHint (.ref S)) Q E s := by
  unfold Builtin.List.listLengthHint
  refine wpAny_bind (wpAny_specialOf hT PySem.F.slot_set_len.lookup ?_)
  generalize hid : ("set.__len__" : String) = id0
  wp_delta
  rw [show splitId id0 = some ("set", "__len__") from by subst hid; decide +kernel]
  subst hid
  refine wpAny_bind (wpAny_isInstance (T := "set") (b := true) hT (by rw [isSubtype_type]; kernel_rfl) ?_)
  refine wpAny_ite_split (fun hab => absurd hab (by decide)) (fun _ => ?_)
  refine wpAny_ite_split (fun _ => ?_) (fun hab => absurd (by decide +kernel) hab)
  exact wpAny_bind (wpAny_typeOf hT (wpAny_pure h))
theorem ext_set {R : Result → Shared → Prop} {r S : Addr} {ns : List Int} {res : Value} {c0 : Nat} (hh : A.handled = none) (hI : SetI P w s.heap r ns) (hne : S ≠ r) (hS : s.heap.get? S = some { cls := .type "list", data := .seq #[] c0 })
    (hR : ∀ h' tk d acc c ms, (∀ b o, b ≠ S → s.heap.get? b = some o → h'.get? b = some o) → h'.get? S = some { cls := .type "list", dict := none, data := .seq acc c, slots := #[] } → IntsAre acc.toList ms → ms.Perm ns → R (.ok (.ret res)) { s with heap := h', toks := tk, drawn := d }) :
    wpAny (model P w) A.in1 (Builtin.List.listExtendWith (.ref S) (.ref r) res) (fun fin s' => match fin with | .done f => R (.ok f) s' | .again c' => c'.quiet = true ∧ codeAny (model P w) A c' R s') (fun e s' => R (.error e) s') s := by
  have hT : s.TypeIs (.ref r) "set" := by
    obtain ⟨o, es, ep, t, ho, hx, _⟩ := hI
    exact ⟨o, ho, hx.1⟩
  have hz : ns.length < 4000 := by
    obtain ⟨o, es, ep, t, ho, hx, hd, ht, he, hp, hz⟩ := hI
    exact hz
  have hlt := Heap.lt_size hS
  unfold Builtin.List.listExtendWith
  refine wpAny_bind (wpAny_typeOf (T := "set") hT ?_)
  have h1 : Builtin.List.listSameRef (.ref S) (.ref r) = false := by simp [Builtin.List.listSameRef, hne]
  rw [h1, if_neg (by decide)]
  refine wpAny_bind (iter_set (A := A.in1) hh hI fun it h1 d wk => ?_)
  obtain ⟨fp, L, ms, St, k1, hit, hfp, W, st, hL, hms⟩ := wk
  have hSf : S ∉ fp := fun z => by rcases hfp S z with e | e; exact hne e; lia
  have hn : L.length ≤ sizeLine := by rw [hL.length, hms.length_eq, sizeLine_eq]; lia
  have key : ∀ (h : Heap) (c1 tk : Nat), St 0 h → (∀ b o, b ≠ S → s.heap.get? b = some o → h.get? b = some o) → h.get? S = some { cls := .type "list", data := .seq #[] c1 } →
      codeAny (model P w) A (.builtin "list.extend.loop" ⟨[.ref S, .ref it, res], []⟩) R { s with heap := h, toks := tk, drawn := d } := by
    intro h c1 tk st hk hS1
    refine codeAny_extend_loopS W.toS hn S hSf res L.length 0 _ #[] c1 rfl (Nat.zero_le _) st hS1 (ItemsOf.nil _) fun s' acc c' hm hS' hacc => ?_
    rw [Moved.eq_with hm]
    have ea : acc.toList = L := List.ext_getElem? fun j => by
      rcases Nat.lt_or_ge j L.length with z | z
      · have hj : j < acc.size := by rw [hacc.1]; exact z
        rw [Array.getElem?_toList, Array.getElem?_eq_getElem hj]
        exact (hacc.2 j _ (Array.getElem?_eq_getElem hj)).symm
      · rw [List.getElem?_eq_none z, List.getElem?_eq_none (by rw [Array.length_toList, hacc.1]; exact z)]
    refine hR s'.heap s'.toks d acc c' ms (fun b o hb e => hm.heap b o (fun hmem => ?_) (hk b o hb e)) hS' (by rw [ea]; exact hL) hms
    rcases List.mem_cons.mp hmem with e' | hmem
    · exact hb e'
    · have := Heap.lt_size e
      rw [List.mem_singleton.mp hmem] at this
      lia
  have hT1 : Shared.TypeIs { s with heap := h1, drawn := d } (.ref r) "set" := by
    obtain ⟨o, ho, hc⟩ := hT
    exact ⟨o, k1 _ _ ho, hc⟩
  have hS1 := k1 _ _ hS
  refine wpAny_bind (wpAny_holding (hint_set hT1 ?_))
  refine wpAny_ite_split (fun _ => ?_) (fun _ => wpAny_pure ⟨plainId_quiet PySem.F.plain_extend_loop _, key _ c0 _ st (fun b o _ e => k1 b o e) hS1⟩)
  refine wpAny_bind (wpAny_rule (wpAny_bind (show wpAny _ _ (updateSeq S (·.push .none) >>= fun _ => updateSeq S (·.pop)) _ _ _ from wpAny_bind (wpAny_updateSeq hS1 rfl ?_))))
  have hS2 := Heap.get?_update_self (Obj.mapSeq (·.push Value.none)) hS1 rfl
  refine wpAny_updateSeq (hz := by seq_fits) hS2 rfl ?_
  have hS3 := Heap.get?_update_self (Obj.mapSeq (·.pop)) hS2 rfl
  have oth : ∀ b o, b ≠ S → h1.get? b = some o → ((h1.update S (Obj.mapSeq (·.push Value.none))).update S (Obj.mapSeq (·.pop))).get? b = some o := fun b o hb e => (Heap.get?_update_other _ _ (Ne.symm hb)).trans ((Heap.get?_update_other _ _ (Ne.symm hb)).trans e)
  exact wpAny_pure ⟨plainId_quiet PySem.F.plain_extend_loop _, key _ _ _ (W.frame 0 _ _ st fun b hb o e => oth b o (fun z => hSf (z ▸ hb)) e) (fun b o hb e => oth b o hb (k1 b o e)) hS3⟩
theorem collect_set {R : List Value → Shared → Prop} {r : Addr} {ns : List Int} (hh : A.handled = none) (hI : SetI P w s.heap r ns)
    (h : ∀ h' tk d acc ms, (∀ b o, s.heap.get? b = some o → h'.get? b = some o) → s.heap.objs.size < h'.objs.size → IntsAre acc ms → ms.Perm ns → R acc { s with heap := h', toks := tk, drawn := d }) : wpAny (model P w) A (collect (.ref r)) R E s := by
  have lt : r < s.heap.objs.size := by
    obtain ⟨o, es, ep, t, ho, _⟩ := hI
    exact Heap.lt_size ho
  unfold collect
  refine wpAny_bind (wpAny_runValue (codeAny_builtin entry_proto_collect' ?_))
  rw [Around.under_plainId PySem.F.plain_proto_collect]
  refine (show wpAny _ A.in1 (newList [] >>= fun l => again (.builtin _ ⟨[l, .ref r], []⟩)) _ _ s from wpAny_bind (wpAny_newObj_type (wpAny_pure ⟨plainId_quiet PySem.F.plain_list_iadd _, codeAny_builtin entry_list_iadd' ?_⟩)))
  rw [Around.under_plainId PySem.F.plain_list_iadd]
  obtain ⟨B, eB⟩ : ∃ B, s.heap.push { cls := .type "list", data := .seq ([] : List Value).toArray } = B := ⟨_, rfl⟩
  have hS : B.get? s.heap.objs.size = some { cls := .type "list", data := .seq #[] } := by rw [← eB]; exact Heap.get?_push_size _ rfl
  have hB : ∀ b o, s.heap.get? b = some o → B.get? b = some o := fun b o e => by rw [← eB]; exact Heap.get?_push_of_some _ e
  rw [eB]
  refine (show wpAny _ A.in1 (Builtin.List.listExtendWith (.ref s.heap.objs.size) (.ref r) (.ref s.heap.objs.size)) _ _ _ from ?_)
  have fin : ∀ h' tk d acc c ms, (∀ b o, s.heap.get? b = some o → h'.get? b = some o) → h'.get? s.heap.objs.size = some { cls := .type "list", dict := none, data := .seq acc c, slots := #[] } → IntsAre acc.toList ms → ms.Perm ns → wpAny (model P w) A (load s.heap.objs.size >>= fun o => match o.data with | .seq xs _ => pure xs.toList | _ => unsupported "internal:collect") R E { s with heap := h', toks := tk, drawn := d } := fun h' tk d acc c ms hk hS' hL hp => wpAny_bind (wpAny_load hS' (wpAny_pure (h h' tk d _ ms hk (Heap.lt_size hS') hL hp)))
  have key := ext_set (A := A) (s := { s with heap := B }) (r := r) (S := s.heap.objs.size) (ns := ns) (res := .ref s.heap.objs.size) (R := fun q s' => ∃ h' tk d acc c ms, q = .ok (.ret (.ref s.heap.objs.size)) ∧ s' = { s with heap := h', toks := tk, drawn := d } ∧ (∀ b o, s.heap.get? b = some o → h'.get? b = some o) ∧ h'.get? s.heap.objs.size = some { cls := .type "list", dict := none, data := .seq acc c, slots := #[] } ∧ IntsAre acc.toList ms ∧ ms.Perm ns) hh (hI.kept fun o e => hB _ o e) (Nat.ne_of_gt lt) hS
    fun h' tk d acc c ms hk hS' hL hp => ⟨h', tk, d, acc, c, ms, rfl, rfl, fun b o e => hk b o (Nat.ne_of_lt (Heap.lt_size e)) (hB b o e), hS', hL, hp⟩
  refine wpAny_mono key (fun f s' x => ?_) fun e s' x => ?_
  · cases f with
    | done f =>
      obtain ⟨h', tk, d, acc, c, ms, e, rfl, hk, hS', hL, hp⟩ := x
      cases e
      exact fin h' tk d acc c ms hk hS' hL hp
    | again c1 =>
      refine ⟨x.1, codeAny_mono x.2 fun q s2 y => ?_⟩
      obtain ⟨h', tk, d, acc, c, ms, rfl, rfl, hk, hS', hL, hp⟩ := y
      exact fin h' tk d acc c ms hk hS' hL hp
  · obtain ⟨_, _, _, _, _, _, e', _⟩ := x
    cases e'
end
end L2


set_option linter.all false
set_option maxRecDepth 100000
set_option maxHeartbeats 4000000
namespace L2
open PySem PySem.Spec PyProof.Rows
section
variable {P : Program} {w : World} {A : Around} {E : Value → Shared → Prop} {s : Shared}
theorem sorted_setI {Q : Value → Shared → Prop} {r : Addr} {ns : List Int} (hh : A.handled = none) (hI : SetI P w s.heap r ns) (h64 : ns.length < 64)
    (h : ∀ h' tk d (out : Array Value) (ns' : List Int) (l : Addr) e, s.heap.objs.size ≤ l → (∀ b o, s.heap.get? b = some o → h'.get? b = some o) → h'.get? l = some (seqObj "list" out e) → IntsAre out.toList ns' → ns'.Perm ns → ns'.Pairwise (· ≤ ·) → Q (.ref l) { s with heap := h', toks := tk, drawn := d }) :
    wpAny (model P w) A (call (.builtin "sorted") [.ref r]) Q E s := by
  refine Calls.call_function_entry kind_sorted plain_sorted entry_sorted (args_sorted1 _) ?_
  unfold Builtin.«sorted»
  refine wpAny_bind (m := checkCount "sorted" 1 1 _) (wpAny_pure (wpAny_bind (collect_set hh hI fun h1 tk d acc ms hk hle' hL hp => ?_)))
  refine wpAny_bind (wpAny_newList ?_ (by rw [hL.length, hp.length_eq, sizeLine_eq]; lia))
  have hoL : (h1.push (seqObj "list" acc.toArray 0)).get? h1.objs.size = some (seqObj "list" acc.toArray 0) := Heap.get?_push_size _ rfl
  refine wpAny_bind (wpAny_holding (wpAny_call_entry slot_list_sort ⟨_, hoL, rfl⟩ entry_list_sort (list_sort_tree hoL hL (by rw [hL.length, hp.length_eq]; exact h64) fun out ns' a1 a2 a3 => ⟨_, rfl, ?_⟩) (args_list_sort _)))
  obtain ⟨e, he⟩ := sortedHeap_at (n := 0) (vs := acc) (out := out) hoL
  refine wpAny_pure ⟨_, rfl, h _ _ d _ ns' h1.objs.size e (Nat.le_of_lt hle') (fun b o hb => ?_) he a1 (a2.trans hp) a3⟩
  have hb1 := hk b o hb
  have hlt := Heap.lt_size hb1
  rw [sortedHeap_old (Nat.ne_of_lt hlt) (by rw [size_push']; exact Nat.lt_succ_of_lt hlt)]
  exact Heap.get?_push_of_some _ hb1
end
theorem Inv.drw {X : Cx} {pins : List (Addr × Obj)} {σ : St} {H : Hp} {s : Shared} (I : Inv X pins σ H s) (d : Drawn) : Inv X pins σ H { s with drawn := d } := ⟨I.ok, I.os, I.bare, I.base, I.loc, I.cell, I.free, I.freeC, I.pin, I.hok, I.len⟩
theorem rise_of {l : List Int} (h : l.Pairwise (· ≤ ·)) (n : l.Nodup) : l.Pairwise (· < ·) := (h.and n).imp fun ⟨a, b⟩ => by lia
def tSrtSet (ta : TA) : TE := fun σ H Q => ta σ H fun vs H1 => ∃ (a : Addr) (ns : List Int), vs = [.ref a] ∧ Rd H1 a (.lst (ns.map V.int)) ∧ ns.length < 3999 ∧ (dedI ns).length < 64 ∧ ∀ (l : Addr) (ns' : List Int), H1 l = none → ns'.Pairwise (· < ·) → (∀ m, m ∈ ns' ↔ m ∈ ns) → Q (.ref l) (upd H1 l (.lst (ns'.map V.int)))
theorem pe_srtSet {X : Cx} {a : Expr} {ta : TA} {p p2 pos pos2 : Pos} (hc : X.calm = true) (hg : Gl X "sorted") (hm : X.mg "sorted" = none) (hg2 : Gl X "set") (hm2 : X.mg "set" = none) (ha : PA X [a] ta)
    (hs : starEach [.Call (.Name "set" p2) [a] [] pos2] X.env = [(false, eval (.Call (.Name "set" p2) [a] [] pos2) X.env)] := by rfl) (hs2 : starEach [a] X.env = [(false, eval a X.env)] := by rfl) :
    PE X (.Call (.Name "sorted" p) [.Call (.Name "set" p2) [a] [] pos2] [] pos) (tSrtSet ta) := by
  intro pins s σ H Q I h
  refine wpAny_Call_Name_kw (ld_blt I hg hm PyProof.Rows.Boot.«sorted» ?_)
  refine PyProof.Rows.callWith_builtin1 ?_ hs rfl
  rw [hs]
  show wpAny _ _ (spliced ((false, eval (.Call (.Name "set" p2) [a] [] pos2) X.env) :: [])) _ _ s
  refine Calls.spliced_cons (wpAny_Call_Name_kw (ld_blt I hg2 hm2 PyProof.Rows.Boot.«set» (PyProof.Rows.callWith_type1 (thn (ha pos2 pins s σ H _ I h) fun us s1 ⟨vs, H1, I1, r1, q1⟩ => ?_) hs2 rfl)))
  obtain ⟨l, ns, rfl, hq, hz, h64, q⟩ := q1
  obtain ⟨u, rfl, ru⟩ := vals1 r1
  cases ru
  obtain ⟨_, its, n, rv, hl⟩ := (show ObjOk X.prog X.w H1 s1.heap l (.lst (ns.map V.int)) from hq.ok I1.hok)
  refine call_setI (its := its.toArray) (ns := ns) (I1.ok.hd hc) ⟨_, hl, rfl, n, rfl⟩ (by rw [List.toList_toArray]; exact intsAre_of rv) hz fun h1 tk hS hk => Calls.spliced_nil ?_
  have lt1 : s1.heap.objs.size < h1.objs.size := by
    obtain ⟨o, _, _, _, ho, _⟩ := hS
    exact Heap.lt_size ho
  refine sorted_setI (s := { s1 with heap := h1, toks := tk }) (I1.ok.hd hc) hS h64 fun h2 tk2 d out ns' l2 e hl2 hk2 ho hI hp hr => ?_
  have nd : ns'.Nodup := hp.nodup_iff.mpr (dedI_nodup ns)
  have kk : ∀ b u, s1.heap.get? b = some u → h2.get? b = some u := fun b u z => hk2 b u (hk b u z)
  have le : s1.heap.objs.size ≤ l2 := Nat.le_trans (Nat.le_of_lt lt1) hl2
  refine ⟨.ref l2, _, (I1.laid (a := l2) (o := .lst (ns'.map V.int)) (t' := tk2) kk le ⟨?_, out.toList, e, vals_ints hI, by simpa [seqObj] using ho⟩).drw d, rfl, q l2 ns' (I1.hok.fresh le) (rise_of hr nd) fun m => (hp.mem_iff).trans dedI_mem⟩
  rw [List.length_map, hp.length_eq, sizeLine_eq]
  lia
end L2


set_option linter.all false
set_option maxRecDepth 100000
set_option maxHeartbeats 4000000
namespace L2
open PySem PySem.Spec PyProof.Rows PySem.W

def AllK {α : Type} (n : Nat) (R : α → Prop) : KasT α → Prop
  | .ret a => R a
  | .ask i j k => i < n ∧ j < n ∧ ∀ b, AllK n R (k b)
theorem AllK.bind {α β : Type} {n : Nat} {R : α → Prop} {R' : β → Prop} {f : α → KasT β} (hf : ∀ a, R a → AllK n R' (f a)) : ∀ {t : KasT α}, AllK n R t → AllK n R' (t.bind f)
  | .ret a, h => hf a h
  | .ask i j k, h => ⟨h.1, h.2.1, fun b => AllK.bind hf (h.2.2 b)⟩
abbrev OkP (n : Nat) (p : Array Nat) : Prop := 0 < n ∧ p.Perm (List.range n).toArray
section
variable {n : Nat}
theorem OkP.lt {p : Array Nat} (h : OkP n p) (k : Nat) : p.getD k 0 < n := by
  by_cases hk : k < p.size
  · have e : p.getD k 0 = p[k] := by simp [Array.getD, hk]
    rw [e]
    have := (Array.perm_iff_toList_perm.mp h.2).mem_iff.mp (Array.getElem_mem_toList hk)
    simpa using this
  · have e : p.getD k 0 = 0 := by simp [Array.getD, hk]
    rw [e]
    exact h.1
end

section
variable {P : Program} {w : World} {A : Around} {E : Value → Shared → Prop} {s : Shared}
end
theorem refs_of : ∀ {ts : List Addr} {its : List Value}, Vals (ts.map V.ref) its → its = ts.map Value.ref
  | [], _, .nil => rfl
  | t :: ts, _, .cons h r => by
    rw [refs_of r, show _ = Value.ref t from h]
    rfl
theorem vals_rfs : ∀ (ts : List Addr), Vals (ts.map V.ref) (ts.map Value.ref)
  | [] => .nil
  | t :: ts => .cons rfl (vals_rfs ts)
theorem perm_refs {vs : List Value} {ts : List Addr} (h : vs.Perm (ts.map Value.ref)) : ∃ ts' : List Addr, ts'.Perm ts ∧ vs = ts'.map Value.ref := by
  have hv : ∀ v ∈ vs, ∃ t, v = Value.ref t := fun v z => by
    obtain ⟨t, _, e⟩ := List.mem_map.mp (h.mem_iff.mp z)
    exact ⟨t, e.symm⟩
  let f : Value → Addr := fun v => match v with | .ref a => a | _ => 0
  have e1 : vs = (vs.map f).map Value.ref := by
    rw [List.map_map]
    refine (List.map_id _).symm.trans (List.map_congr_left fun v z => ?_)
    obtain ⟨t, rfl⟩ := hv v z
    rfl
  refine ⟨vs.map f, ?_, e1⟩
  have e2 : ts = (ts.map Value.ref).map f := by
    rw [List.map_map]
    exact (List.map_id _).symm
  rw [e2]
  exact h.map f
section
variable {X : Cx}
end
end L2


set_option linter.all false
set_option maxRecDepth 100000
set_option maxHeartbeats 4000000
namespace L2
open PySem PySem.Spec PyProof.Rows
structure FunD (K : PySem.W.Frag) (x qual : Str) (st : Stmt) (f : Addr) (fd : FuncData) : Prop where
  ex : ∃ (oc : Value) (od : Option Addr) (T : Addr) (kV doc pm : Value) (an : Option Addr) (cdv ct : Value) (osl : Array (Option Value)) (o : Obj) (dv : Value) (n : Nat),
    fd = PySem.W.fnOf x qual (defArgs st) (defBody st) (defScope st) (.ref T) kV doc pm an cdv ct ∧ K.lookup f = some ⟨oc, od, .func fd, osl⟩ ∧ PySem.W.codeIn K cdv qual = true ∧ K.lookup T = some o ∧ o.data = .seq #[dv] n
  kp : PySem.W.keepIn K (.ref f) = true
inductive LnD (K : PySem.W.Frag) (x q : Str) (st : Stmt) (f : Addr) : Prop
  | mk {oc : Value} {od an : Option Addr} {osl : Array (Option Value)} {T : Addr} {kV doc pm cdv ct : Value} {o : Obj} {dv : Value} {n : Nat} : K.lookup f = some ⟨oc, od, .func (PySem.W.fnOf x q (defArgs st) (defBody st) (defScope st) (.ref T) kV doc pm an cdv ct), osl⟩ → PySem.W.codeIn K cdv q = true → PySem.W.keepIn K (.ref f) = true → K.lookup T = some o → o.data = .seq #[dv] n → LnD K x q st f
theorem LnD.ex {K : PySem.W.Frag} {x q : Str} {st : Stmt} {f : Addr} : LnD K x q st f → ∃ fd, FunD K x q st f fd
  | .mk l c k t d => ⟨_, ⟨⟨_, _, _, _, _, _, _, _, _, _, _, _, _, rfl, l, c, t, d⟩, k⟩⟩
inductive ALd (K : PySem.W.Frag) (c : Addr) (x q : Str) (st : Stmt) (f : Addr) : Prop
  | mk : An K c x f → LnD K x q st f → ALd K c x q st f
def GdD (P : Program) (w : World) (K : PySem.W.Frag) (mg : Str → Option Value) (CX : CXT) (k : Nat) (x q : Str) (st : Stmt) (ps : List Str) (sp : Sp) : Prop := ∀ {f : Addr} {fd : FuncData} {base : Heap}, FunD K x q st f fd → FnOk P w K mg base CX k f fd ps sp
section
variable {P : Program} {w : World} {K : PySem.W.Frag} {mg : Str → Option Value} {base : Heap} {x qual : Str} {st : Stmt} {f : Addr} {fd : FuncData} {N ps : List Str} {k : Nat} {sp : Sp}
theorem FunD.ok (F : FunD K x qual st f fd) (S : FnScope N ps (defScope st)) (len : ∀ vs H Q E, sp vs H Q E → vs.length = ps.length)
    (hbody : ∀ (cdv : Value) (A : Around) (outer : List Env) (s : Shared) (H : Hp) (vs : List V) (Q : VK) (E : XK), Room k (A.deeper (envOfC qual (defScope st) s.heap.objs.size f cdv)) → sp vs H Q E →
      ∃ t, PSs (cxOf CX0 P w K mg base N qual (defScope st) f cdv A outer s H E).nox (defBody st) t ∧ t { nx := fun _ H' => Q .non H', rt := Q } (start N vs) H) : FnOk P w K mg base CX0 (k + 1) f fd ps sp := by
  obtain ⟨oc, od, T, kV, doc, pm, an, cdv, ct, osl, o, dv, n, rfl, lk, hcd, _, _⟩ := F.ex
  refine fn_of lk hcd S len fun A outer s H vs Q E hr hsp => ?_
  obtain ⟨t, h, q⟩ := hbody cdv A outer s H vs Q E hr hsp
  exact ⟨t, h.nox, q⟩
end
section
variable {P : Program} {w : World} {K : PySem.W.Frag} {h : Heap} {mg : Str → Option Value} {CX : CXT} {k : Nat} {q : Str} {st : Stmt} {C f : Addr} {ps : List Str} {sp : Sp}
theorem usCd (E : HE P w K h mg) (h1 : PySem.W.makesIn K C = true) (h2 : PySem.W.keepIn K (.ref C) = true) (d : ALd K C "__init__" q st f) (o : GdD P w K mg CX k "__init__" q st ps sp) (b : ∀ (T : Addr) (kV doc pm : Value) (an : Option Addr) (cdv ct : Value) (us : List Value), us.length = ps.length → ∃ j : Option (Array Value) → Sem (List (Str × Value)), bindArgs (PySem.W.fnOf "__init__" q (defArgs st) (defBody st) (defScope st) (.ref T) kV doc pm an cdv ct) ⟨us, []⟩ = seqItems? (.ref T) >>= j ∧ ∀ dv, j (some #[dv]) = pure (ps.zip us) := by intro _ _ _ _ _ _ _; exact bn 2 fun _ _ => ⟨_, rfl, fun _ => rfl⟩) : UsedI P w K mg CX k C ps sp := by
  cases d with
  | mk a l =>
    obtain ⟨fd, F⟩ := l.ex
    cases a with
    | mk a j =>
      refine ⟨⟨f, fd, fun _ => o F, ⟨h1, a, j, h2⟩, ?_⟩⟩
      obtain ⟨oc, od, T, kV, doc, pm, an, cdv, ct, osl, ob, dv, n, rfl, lk, hcd, ht, hs⟩ := F.ex
      intro s us X hl
      obtain ⟨j, b1, b2⟩ := b T kV doc pm an cdv ct us (by simpa using hl)
      have := PySem.W.binds_K (args := ⟨us, []⟩) X rfl ht hs b1 (b2 dv)
      simpa using this
end
end L2


set_option linter.all false
set_option maxRecDepth 100000
set_option maxHeartbeats 4000000
namespace L2
open PySem PyProof.Rows
theorem iteS {c : Prop} [Decidable c] {β : Type} {m m' : StateT SortSt Sem β} {M : Model} {A : Around} {E : Value → Shared → Prop} {s : Shared} {Q : β → SortSt → Prop} {st : SortSt} (h : c → wpS M A E s m Q st) (h' : ¬ c → wpS M A E s m' Q st) : wpS M A E s (if c then m else m') Q st := by
  split
  · rename_i z; exact h z
  · rename_i z; exact h' z
section
variable {α : Type} {le : α → α → Bool}
theorem mg_nil : ∀ {l : List α}, List.merge l [] le = l
  | [] => by simp
  | _ :: _ => by simp
theorem mgL1 : ∀ {l1 l2 bs : List α}, (∀ u ∈ l1, ∀ v ∈ bs, le u v = true) → List.merge (l1 ++ l2) bs le = l1 ++ List.merge l2 bs le
  | [], l2, bs, h => rfl
  | u :: l1, l2, [], h => by rw [mg_nil, mg_nil]
  | u :: l1, l2, v :: bs, h => by
    rw [List.cons_append, List.cons_merge_cons, if_pos (h u (.head _) v (.head _)), mgL1 fun x hx => h x (.tail _ hx)]
    rfl
theorem mgL2 : ∀ {l1 as l2 : List α}, (∀ u ∈ as, ∀ v ∈ l1, le u v = false) → List.merge as (l1 ++ l2) le = l1 ++ List.merge as l2 le
  | [], as, l2, h => rfl
  | v :: l1, [], l2, h => by simp
  | v :: l1, u :: as, l2, h => by
    rw [List.cons_append, List.cons_merge_cons, if_neg (by rw [h u (.head _) v (.head _)]; exact Bool.false_ne_true), mgL2 fun x hx y hy => h x hx y (.tail _ hy)]
    rfl
theorem mgR1 : ∀ {l1 l2 bs : List α}, (∀ u ∈ l2, ∀ v ∈ bs, le u v = false) → List.merge (l1 ++ l2) bs le = List.merge l1 bs le ++ l2
  | [], l2, bs, h => by
    have := mgL2 (l2 := []) h
    rw [List.append_nil, mg_nil] at this
    rw [List.nil_append, this, List.nil_merge]
  | u :: l1, l2, [], h => by rw [mg_nil, mg_nil]
  | u :: l1, l2, v :: bs, h => by
    rw [List.cons_append, List.cons_merge_cons, List.cons_merge_cons]
    split
    · rw [mgR1 h]; rfl
    · rw [← List.cons_append, mgR1 fun x hx y hy => h x hx y (.tail _ hy)]; rfl
theorem mgR2 : ∀ {as l1 l2 : List α}, (∀ u ∈ as, ∀ v ∈ l2, le u v = true) → List.merge as (l1 ++ l2) le = List.merge as l1 le ++ l2
  | as, [], l2, h => by
    have := mgL1 (l2 := []) h
    rw [List.append_nil, List.nil_merge] at this
    rw [List.nil_append, this, mg_nil]
  | [], v :: l1, l2, h => by rw [List.nil_merge, List.nil_merge]
  | u :: as, v :: l1, l2, h => by
    rw [List.cons_append, List.cons_merge_cons, List.cons_merge_cons]
    split
    · rw [← List.cons_append, mgR2 fun x hx => h x (.tail _ hx)]; rfl
    · rw [mgR2 h]; rfl
end
variable {P : Program} {w : World} {A : Around} {s : Shared}

def LtOk (P : Program) (w : World) (A : Around) (s : Shared) (κ : KeyKind) (κd : SortKind) : Prop := ∀ (E : Value → Shared → Prop) (x y : Value) (a b : κ.α) (Q : Bool → Shared → Prop), κ.keyOf x = some a → κ.keyOf y = some b → Q (κ.blt a b) s → wpAny (model P w) A (keyLt' κd x y) Q E s
variable {κ : KeyKind} {κd : SortKind} {E : Value → Shared → Prop}
def kx (κ : KeyKind) (p : Keyed) : κ.α := (κ.keyOf p.1).getD κ.dflt
def kL (κ : KeyKind) (x y : Keyed) : Bool := !κ.blt (kx κ y) (kx κ x)
def Gk (κ : KeyKind) (xs : Array Keyed) : Prop := ∀ p ∈ xs.toList, (κ.keyOf p.1).isSome = true
abbrev mS (κd : SortKind) (xs : Array Keyed) (p : Array (Nat × Nat × Nat)) (g : Nat) : SortSt := SortSt.mk' κd xs p g none
theorem wp_lt {x y : Keyed} {st : SortSt} {Q : Option Bool → SortSt → Prop} (hO : LtOk P w A s κ κd) (hk : kindOf st = κd) (hx : (κ.keyOf x.1).isSome = true) (hy : (κ.keyOf y.1).isSome = true) (h : Q (some (κ.blt (kx κ x) (kx κ y))) st) : wpS (model P w) A E s (lt' x y) Q st := by
  obtain ⟨a, ha⟩ := Option.isSome_iff_exists.mp hx
  obtain ⟨b, hb⟩ := Option.isSome_iff_exists.mp hy
  rw [lt'_eq]
  refine wpS_bind (wpS_get ?_)
  rw [hk]
  refine wpS_bind (wpS_lift (wpAny_attempt (hO _ x.1 y.1 a b _ ha hb ⟨rfl, ?_⟩)))
  unfold kx at h
  rw [ha, hb] at h
  exact wpS_pure h
def at0 (xs : Array Keyed) (i : Nat) : Keyed := xs[i]?.getD (.none, .none)
theorem wp_el {xs : Array Keyed} {i : Nat} {st : SortSt} {Q : Keyed → SortSt → Prop} (hi : i < xs.size) (h : Q (at0 xs i) st) : wpS (model P w) A E s (elem' xs i) Q st := by
  rw [elem'_eq]
  unfold at0 at h
  rw [getElem?_pos xs i hi] at h ⊢
  exact wpS_pure h
theorem Gk.at {xs : Array Keyed} {i : Nat} (h : Gk κ xs) (hi : i < xs.size) : (κ.keyOf (at0 xs i).1).isSome = true := by
  unfold at0
  rw [getElem?_pos xs i hi]
  exact h _ (Array.getElem_mem_toList hi)
abbrev GaS := Option (Option Nat) × Nat × Nat
def FC (B : Nat → Bool) (n lo hi : Nat) : Prop := lo ≤ hi ∧ hi ≤ n ∧ (∀ i, i < lo → B i = true) ∧ ∀ i, hi ≤ i → i < n → B i = false
theorem wp_galB {B : Nat → Bool} {n lo hi : Nat} {st : SortSt} {Q : Option Nat → SortSt → Prop} {f : Nat → GaS → StateT SortSt Sem (ForInStep GaS)} {g : GaS → StateT SortSt Sem (Option Nat)}
    (mono : ∀ i j, i ≤ j → j < n → B j = true → B i = true) (hc : FC B n lo hi)
    (hf : ∀ x l r Q', (l ≥ r → Q' (.done (none, l, r)) st) → (l < r → r ≤ n → (B (l + (r - l) / 2) = true → Q' (.yield (none, l + (r - l) / 2 + 1, r)) st) ∧ (B (l + (r - l) / 2) = false → Q' (.yield (none, l, l + (r - l) / 2)) st)) → r ≤ n → wpS (model P w) A E s (f x (none, l, r)) Q' st)
    (hg : ∀ l r, FC B n l r → l = r → wpS (model P w) A E s (g (none, l, r)) Q st) : wpS (model P w) A E s (forIn [0:n] (none, lo, hi) f >>= g) Q st := by
  refine wpS_bind (wpS_forRange (I := fun x c st' => st' = st ∧ ∃ l r, c = (none, l, r) ∧ FC B n l r ∧ r - l ≤ n - x) ?_ ?_ ⟨rfl, lo, hi, rfl, hc, by have := hc.2.1; omega⟩)
  · rintro x c _ _ hx ⟨rfl, l, r, rfl, ⟨a1, a2, a4, a5⟩, a3⟩
    refine hf _ _ _ _ (fun c => hg l r ⟨a1, a2, a4, a5⟩ (by omega)) (fun c _ => ⟨fun e => ⟨rfl, _, r, rfl, ⟨by omega, a2, fun i hi => mono i _ (by omega) (by omega) e, a5⟩, by omega⟩, fun e => ⟨rfl, l, _, rfl, ⟨by omega, by omega, a4, fun i b1 b2 => ?_⟩, by omega⟩⟩) a2
    cases e' : B i with
    | false => rfl
    | true => rw [mono _ i b1 b2 e'] at e; cases e
  · rintro c _ ⟨rfl, l, r, rfl, hc, a3⟩
    exact hg l r hc (by have := hc.1; omega)
def gallop' : Bool → Keyed → Array Keyed → Nat → Nat → Nat → StateT SortSt Sem (Option Nat) := sortPriv% PySem.Builtin.gallop
theorem wp_gallop {left : Bool} {key : Keyed} {arr : Array Keyed} {base n hint : Nat} {st : SortSt} {Q : Option Nat → SortSt → Prop} (B : Nat → Bool)
    (hO : LtOk P w A s κ κd) (hk : kindOf st = κd) (hn : base + n ≤ arr.size) (hh : hint < n) (hS : Gk κ arr) (hK : (κ.keyOf key.1).isSome = true)
    (eB : ∀ i, i < n → B i = if left = true then κ.blt (kx κ (at0 arr (base + i))) (kx κ key) else !κ.blt (kx κ key) (kx κ (at0 arr (base + i))))
    (mono : ∀ i j, i ≤ j → j < n → B j = true → B i = true)
    (h : ∀ k, FC B n k k → Q (some k) st) : wpS (model P w) A E s (gallop' left key arr base n hint) Q st := by
  have hB : ∀ (i : Nat) (Q : Option Bool → SortSt → Prop), i < n → Q (some (B i)) st → wpS (model P w) A E s (elem' arr (base + i) >>= fun x => if left = true then lt' x key else lt' key x >>= fun r => pure (r.map (!·))) Q st := fun i Q hi hq => by
    refine wpS_bind (wp_el (by omega) ?_)
    have hg := hS.at (i := base + i) (by omega)
    rw [eB i hi] at hq
    cases left with
    | true => exact wp_lt hO hk hg hK hq
    | false => exact wpS_bind (wp_lt hO hk hK hg (wpS_pure hq))
  have dn : ∀ j, j < n → B j = false → ∀ i, j ≤ i → i < n → B i = false := fun j hj ej i b1 b2 => by
    cases e2 : B i with
    | false => rfl
    | true => rw [mono _ i b1 b2 e2] at ej; cases ej
  unfold gallop'
  refine wpS_bind (hB hint _ hh ?_)
  cases e : B hint with
  | true =>
    refine wpS_bind (wpS_mono (wpS_forRange (I := fun x c st' => st' = st ∧ ∃ l o, c = (none, l, o) ∧ l < o ∧ x < o ∧ (hint + l < n ∧ B (hint + l) = true)) (Q := fun c st' => st' = st ∧ ∃ l o, c = (none, l, o) ∧ FC B n (hint + l + 1) (hint + min o (n - hint))) ?_ ?_ ⟨rfl, 0, 1, rfl, by omega, by omega, hh, e⟩) ?_)
    · rintro x c _ _ hx ⟨rfl, l, o, rfl, a1, a2, a3, a4⟩
      dsimp only
      by_cases c : o ≥ n - hint
      · rw [if_pos c]
        exact wpS_pure ⟨rfl, l, o, rfl, by omega, by omega, fun i hi => mono i _ (by omega) a3 a4, fun i b1 b2 => by omega⟩
      · rw [if_neg c]
        refine wpS_bind (hB _ _ (by omega) ?_)
        cases e' : B (hint + o) with
        | true => exact wpS_pure ⟨rfl, o, _, rfl, by omega, by omega, by omega, e'⟩
        | false => exact wpS_pure ⟨rfl, l, o, rfl, by omega, by omega, fun i hi => mono i _ (by omega) a3 a4, fun i b1 => dn _ (by omega) e' i (by omega)⟩
    · rintro c _ ⟨rfl, l, o, rfl, a1, a2, a3, a4⟩
      exact ⟨rfl, l, o, rfl, by omega, by omega, fun i hi => mono i _ (by omega) a3 a4, fun i b1 b2 => by omega⟩
    rintro c _ ⟨rfl, l, o, rfl, hc⟩
    refine wp_galB mono hc (fun x l r Q' h1 h2 h3 => iteS (fun c => wpS_pure (h1 c)) fun (c : ¬ l ≥ r) => wpS_bind (hB (l + (r - l) / 2) _ (by omega) (by
      cases e : B (l + (r - l) / 2) with
      | true => exact wpS_pure ((h2 (by omega) h3).1 e)
      | false => exact wpS_pure ((h2 (by omega) h3).2 e)))) fun l r hc e => wpS_pure (h _ (e ▸ hc))
  | false =>
    refine wpS_bind (wpS_mono (wpS_forRange (I := fun x c st' => st' = st ∧ ∃ l o, c = (none, l, o) ∧ l < o ∧ x < o ∧ (l ≤ hint ∧ B (hint - l) = false)) (Q := fun c st' => st' = st ∧ ∃ l o, c = (none, l, o) ∧ FC B n (hint + 1 - min o (hint + 1)) (hint - l)) ?_ ?_ ⟨rfl, 0, 1, rfl, by omega, by omega, by omega, e⟩) ?_)
    · rintro x c _ _ hx ⟨rfl, l, o, rfl, a1, a2, a3, a4⟩
      dsimp only
      by_cases c : o ≥ hint + 1
      · rw [if_pos c]
        exact wpS_pure ⟨rfl, l, o, rfl, by omega, by omega, fun i hi => by omega, dn _ (by omega) a4⟩
      · rw [if_neg c]
        refine wpS_bind (hB _ _ (by omega) ?_)
        cases e' : B (hint - o) with
        | true => exact wpS_pure ⟨rfl, l, o, rfl, by omega, by omega, fun i hi => mono i _ (by omega) (by omega) e', dn _ (by omega) a4⟩
        | false => exact wpS_pure ⟨rfl, o, _, rfl, by omega, by omega, by omega, e'⟩
    · rintro c _ ⟨rfl, l, o, rfl, a1, a2, a3, a4⟩
      exact ⟨rfl, l, o, rfl, by omega, by omega, fun i hi => by omega, dn _ (by omega) a4⟩
    rintro c _ ⟨rfl, l, o, rfl, hc⟩
    refine wp_galB mono hc (fun x l r Q' h1 h2 h3 => iteS (fun c => wpS_pure (h1 c)) fun (c : ¬ l ≥ r) => wpS_bind (hB (l + (r - l) / 2) _ (by omega) (by
      cases e : B (l + (r - l) / 2) with
      | true => exact wpS_pure ((h2 (by omega) h3).1 e)
      | false => exact wpS_pure ((h2 (by omega) h3).2 e)))) fun l r hc e => wpS_pure (h _ (e ▸ hc))
end L2


set_option linter.all false
set_option maxRecDepth 100000
set_option maxHeartbeats 4000000
namespace L2
open PySem PyProof.Rows
theorem el_drop {xs : Array Keyed} {i : Nat} (hi : i < xs.size) : xs.toList.drop i = at0 xs i :: xs.toList.drop (i + 1) := by
  have : at0 xs i = xs.toList[i]'(by simpa using hi) := by unfold at0; rw [getElem?_pos xs i hi]; rfl
  rw [this]
  exact List.drop_eq_getElem_cons _
theorem at_toList {xs : Array Keyed} {j : Nat} (hj : j < xs.toList.length) : xs.toList[j] = at0 xs j := by
  have h : j < xs.size := by simpa using hj
  unfold at0
  rw [getElem?_pos xs j h]
  rfl
theorem mem_dropA {xs : Array Keyed} {i : Nat} {x : Keyed} (h : x ∈ xs.toList.drop i) : ∃ j, i ≤ j ∧ j < xs.size ∧ x = at0 xs j := by
  obtain ⟨k, hk, rfl⟩ := List.mem_iff_getElem.mp h
  rw [List.length_drop, Array.length_toList] at hk
  refine ⟨i + k, by omega, by omega, ?_⟩
  rw [List.getElem_drop]
  exact at_toList _
theorem mem_takeA {xs : Array Keyed} {i : Nat} {x : Keyed} (h : x ∈ xs.toList.take i) : ∃ j, j < i ∧ j < xs.size ∧ x = at0 xs j := by
  obtain ⟨k, hk, rfl⟩ := List.mem_iff_getElem.mp h
  rw [List.length_take, Array.length_toList] at hk
  refine ⟨k, by omega, by omega, ?_⟩
  rw [List.getElem_take]
  exact at_toList _
theorem mem_cut {xs : Array Keyed} {i k : Nat} {x : Keyed} (h : x ∈ (xs.extract i (i + k)).toList) : ∃ j, i ≤ j ∧ j < i + k ∧ j < xs.size ∧ x = at0 xs j := by
  rw [Array.toList_extract, List.extract_eq_take_drop] at h
  obtain ⟨m, hm, rfl⟩ := List.mem_iff_getElem.mp h
  rw [List.length_take, List.length_drop, Array.length_toList] at hm
  refine ⟨i + m, by omega, by omega, by omega, ?_⟩
  rw [List.getElem_take, List.getElem_drop]
  exact at_toList _
theorem drop_cut (xs : Array Keyed) (i k : Nat) : xs.toList.drop i = (xs.extract i (i + k)).toList ++ xs.toList.drop (i + k) := by
  rw [Array.toList_extract, List.extract_eq_take_drop, Nat.add_sub_cancel_left, ← List.drop_drop, List.take_append_drop]
theorem drop_ext (xs : Array Keyed) (i : Nat) : (xs.extract i xs.size).toList = xs.toList.drop i := by
  rw [Array.toList_extract, List.extract_eq_take_drop, ← Array.length_toList, ← List.length_drop, List.take_length]
section
variable {le : Keyed → Keyed → Bool} {a b out : Array Keyed} {ia ib : Nat} {R : List Keyed}
def Mx (le : Keyed → Keyed → Bool) (a b : Array Keyed) (R : List Keyed) (out : Array Keyed) (ia ib : Nat) : Prop := out.toList ++ List.merge (a.toList.drop ia) (b.toList.drop ib) le = R
theorem Mx.pB (h : Mx le a b R out ia ib) (hb : ib < b.size) (hc : ∀ i, ia ≤ i → i < a.size → le (at0 a i) (at0 b ib) = false) : Mx le a b R (out.push (at0 b ib)) ia (ib + 1) := by
  unfold Mx at h ⊢
  rw [← h, el_drop hb, ← List.singleton_append, mgL2 (l1 := [at0 b ib]), Array.toList_push, List.append_assoc]
  intro u hu v hv
  obtain ⟨i, h1, h2, rfl⟩ := mem_dropA hu
  rw [List.mem_singleton.mp hv]
  exact hc i h1 h2
theorem Mx.pA (h : Mx le a b R out ia ib) (ha : ia < a.size) (hc : ∀ i, ib ≤ i → i < b.size → le (at0 a ia) (at0 b i) = true) : Mx le a b R (out.push (at0 a ia)) (ia + 1) ib := by
  unfold Mx at h ⊢
  rw [← h, el_drop ha, ← List.singleton_append, mgL1 (l1 := [at0 a ia]), Array.toList_push, List.append_assoc]
  intro u hu v hv
  obtain ⟨i, h1, h2, rfl⟩ := mem_dropA hv
  rw [List.mem_singleton.mp hu]
  exact hc i h1 h2
theorem Mx.kB {k : Nat} (h : Mx le a b R out ia ib) (hc : ∀ i j, ia ≤ i → i < a.size → ib ≤ j → j < ib + k → le (at0 a i) (at0 b j) = false) : Mx le a b R (out ++ b.extract ib (ib + k)) ia (ib + k) := by
  unfold Mx at h ⊢
  rw [← h, drop_cut b ib k, mgL2, Array.toList_append, List.append_assoc]
  intro u hu v hv
  obtain ⟨i, h1, h2, rfl⟩ := mem_dropA hu
  obtain ⟨j, h3, h4, _, rfl⟩ := mem_cut hv
  exact hc i j h1 h2 h3 h4
theorem Mx.kA {k : Nat} (h : Mx le a b R out ia ib) (hc : ∀ i j, ia ≤ i → i < ia + k → ib ≤ j → j < b.size → le (at0 a i) (at0 b j) = true) : Mx le a b R (out ++ a.extract ia (ia + k)) (ia + k) ib := by
  unfold Mx at h ⊢
  rw [← h, drop_cut a ia k, mgL1, Array.toList_append, List.append_assoc]
  intro u hu v hv
  obtain ⟨i, h1, h2, _, rfl⟩ := mem_cut hu
  obtain ⟨j, h3, h4, rfl⟩ := mem_dropA hv
  exact hc i j h1 h2 h3 h4
theorem Mx.done (h : Mx le a b R out ia ib) (hc : ia = a.size ∨ ib = b.size) : (out ++ a.extract ia a.size ++ b.extract ib b.size).toList = R := by
  unfold Mx at h
  rw [Array.toList_append, Array.toList_append, drop_ext, drop_ext, ← h, List.append_assoc]
  rcases hc with rfl | rfl
  · rw [← Array.length_toList, List.drop_length, List.nil_merge, List.nil_append]
  · rw [← Array.length_toList, List.drop_length, mg_nil, List.append_nil]
theorem Mx.last (h : Mx le a b R out ia ib) (hc : ∀ i j, ia ≤ i → i < a.size → j < b.size → le (at0 a i) (at0 b j) = false) : (out ++ b.extract ib b.size ++ a.extract ia a.size).toList = R := by
  have e := mgL2 (le := le) (as := a.toList.drop ia) (l1 := b.toList.drop ib) (l2 := []) fun u hu v hv => by
    obtain ⟨i, h1, h2, rfl⟩ := mem_dropA hu
    obtain ⟨j, h3, h4, rfl⟩ := mem_dropA hv
    exact hc i j h1 h2 h4
  rw [List.append_nil, mg_nil] at e
  unfold Mx at h
  rw [Array.toList_append, Array.toList_append, drop_ext, drop_ext, ← h, e, List.append_assoc]
end
variable {P : Program} {w : World} {A : Around} {s : Shared} {κ : KeyKind} {κd : SortKind} {E : Value → Shared → Prop}
theorem kL_true {x y : Keyed} (h : κ.blt (kx κ y) (kx κ x) = false) : kL κ x y = true := by unfold kL; rw [h]; rfl
theorem kL_false {x y : Keyed} (h : κ.blt (kx κ y) (kx κ x) = true) : kL κ x y = false := by unfold kL; rw [h]; rfl
theorem kL_tr {x y z : Keyed} (h1 : kL κ x y = true) (h2 : kL κ y z = true) : kL κ x z = true := by
  unfold kL at *
  rw [Bool.not_eq_true'] at *
  exact KeyOrd.kle_trans h1 h2
theorem kL_lt {x y z : Keyed} (h1 : kL κ x y = false) (h2 : kL κ x z = true) : kL κ z y = false := by
  cases e : kL κ z y with
  | false => rfl
  | true => rw [kL_tr h2 e] at h1; cases h1
theorem kL_lt2 {x y z : Keyed} (h1 : kL κ x y = false) (h2 : kL κ z y = true) : kL κ x z = false := by
  cases e : kL κ x z with
  | false => rfl
  | true => rw [kL_tr e h2] at h1; cases h1

def SrA (κ : KeyKind) (xs : Array Keyed) : Prop := ∀ i j, i ≤ j → j < xs.size → kL κ (at0 xs i) (at0 xs j) = true
def mergeLo' : Array Keyed → Array Keyed → StateT SortSt Sem (Array Keyed) := sortPriv% PySem.Builtin.mergeLo
def LoI (κ : KeyKind) (a b : Array Keyed) (R : List Keyed) (out : Array Keyed) (ia ib : Nat) : Prop := Mx (kL κ) a b R out ia ib ∧ ia + 1 < a.size ∧ ib < b.size
theorem gal_A {key : Keyed} {arr : Array Keyed} {base n hint : Nat} {st : SortSt} {Q : Option Nat → SortSt → Prop} (hO : LtOk P w A s κ κd) (hk : kindOf st = κd) (hn : base + n ≤ arr.size) (hh : hint < n) (hS : Gk κ arr) (hK : (κ.keyOf key.1).isSome = true) (sr : ∀ i j, i ≤ j → j < n → kL κ (at0 arr (base + i)) (at0 arr (base + j)) = true)
    (h : ∀ k, k ≤ n → (∀ i, i < k → kL κ (at0 arr (base + i)) key = true) → (∀ i, k ≤ i → i < n → kL κ (at0 arr (base + i)) key = false) → Q (some k) st) : wpS (model P w) A E s (gallop' false key arr base n hint) Q st :=
  wp_gallop (fun i => kL κ (at0 arr (base + i)) key) hO hk hn hh hS hK (fun i _ => rfl) (fun i j hij hj e => kL_tr (sr i j hij hj) e) fun k hc => h k hc.2.1 hc.2.2.1 hc.2.2.2
theorem gal_B {key : Keyed} {arr : Array Keyed} {base n hint : Nat} {st : SortSt} {Q : Option Nat → SortSt → Prop} (hO : LtOk P w A s κ κd) (hk : kindOf st = κd) (hn : base + n ≤ arr.size) (hh : hint < n) (hS : Gk κ arr) (hK : (κ.keyOf key.1).isSome = true) (sr : ∀ i j, i ≤ j → j < n → kL κ (at0 arr (base + i)) (at0 arr (base + j)) = true)
    (h : ∀ k, k ≤ n → (∀ i, i < k → kL κ key (at0 arr (base + i)) = false) → (∀ i, k ≤ i → i < n → kL κ key (at0 arr (base + i)) = true) → Q (some k) st) : wpS (model P w) A E s (gallop' true key arr base n hint) Q st :=
  wp_gallop (fun i => !kL κ key (at0 arr (base + i))) hO hk hn hh hS hK (fun i _ => by unfold kL; rw [Bool.not_not, if_pos rfl]) (fun i j hij hj e => by
    rw [Bool.not_eq_true'] at *
    exact kL_lt2 e (sr i j hij hj)) fun k hc => h k hc.2.1 (fun i hi => by have := hc.2.2.1 i hi; rwa [Bool.not_eq_true'] at this) fun i h1 h2 => by have := hc.2.2.2 i h1 h2; rwa [Bool.not_eq_false'] at this
theorem wp_mergeLo {a b xs : Array Keyed} {p : Array (Nat × Nat × Nat)} {g : Nat} {Q : Array Keyed → SortSt → Prop} (hO : LtOk P w A s κ κd) (ga : Gk κ a) (gb : Gk κ b) (sa : SrA κ a) (sb : SrA κ b) (ha : 0 < a.size) (hb : 0 < b.size) (h0 : kL κ (at0 a 0) (at0 b 0) = false) (hl : ∀ j, j < b.size → kL κ (at0 a (a.size - 1)) (at0 b j) = false)
    (h : ∀ out g', out.toList = List.merge a.toList b.toList (kL κ) → Q out (mS κd xs p g')) : wpS (model P w) A E s (mergeLo' a b) Q (mS κd xs p g) := by
  unfold mergeLo'
  obtain ⟨R, hR⟩ : ∃ R, List.merge a.toList b.toList (kL κ) = R := ⟨_, rfl⟩
  rw [hR] at h
  have m0 : Mx (kL κ) a b R #[at0 b 0] 0 1 := Mx.pB (out := #[]) (by unfold Mx; rw [← hR]; rfl) hb fun i _ hi => kL_lt h0 (sa 0 i (by omega) hi)
  have last : ∀ {out ia ib}, Mx (kL κ) a b R out ia ib → ia + 1 = a.size → (out ++ b.extract ib b.size ++ a.extract ia a.size).toList = R := fun hm e => hm.last fun i j h1 h2 h3 => by
    have : i = a.size - 1 := by omega
    rw [this]
    exact hl j h3
  refine wpS_bind (wpS_lift (wpAny_rule ⟨rfl, ?_⟩))
  refine wpS_bind (wp_el hb ?_)
  refine iteS (fun c => wpS_pure (h _ _ (m0.done (.inr (by simpa using c))))) fun c1 => iteS (fun c => wpS_pure (h _ _ (last m0 (by simpa using c)))) fun c2 => ?_
  have c1 : 1 < b.size := by have : ¬ 1 = b.size := by simpa using c1
                             omega
  have c2 : 0 + 1 < a.size := by have : ¬ 0 + 1 = a.size := by simpa using c2
                                 omega
  refine wpS_bind (wpS_get (wpS_bind (wpS_mono (wpS_forRange (I := fun x c st' => ∃ out ia ib mg g', c = (none, out, ia, ib, mg) ∧ st' = mS κd xs p g' ∧ LoI κ a b R out ia ib ∧ x < ia + ib) (Q := fun c st' => ∃ g', st' = mS κd xs p g' ∧ ∃ r y, c = (some r, y) ∧ r.toList = R) ?_ ?_ ⟨_, _, _, _, _, rfl, rfl, ⟨m0, c2, c1⟩, by omega⟩) ?_)))
  · rintro x c _ _ hx ⟨out, ia, ib, mg, g', rfl, rfl, I0, hxx⟩
    refine wpS_bind (wpS_mono (wpS_forRange (I := fun y c st' => ∃ out ia' ib' ac bc, c = (none, out, ia', ib', ac, bc) ∧ st' = mS κd xs p g' ∧ LoI κ a b R out ia' ib' ∧ ia' + ib' = ia + ib + y) (Q := fun c st' => st' = mS κd xs p g' ∧ ((∃ r y, c = (some r, y) ∧ r.toList = R) ∨ ∃ out ia' ib' ac bc, c = (none, out, ia', ib', ac, bc) ∧ LoI κ a b R out ia' ib' ∧ ia + ib + 1 ≤ ia' + ib')) ?_ ?_ ⟨out, ia, ib, _, _, rfl, rfl, I0, rfl⟩) ?_)
    · rintro y c _ _ hy ⟨out, ia', ib', ac, bc, rfl, rfl, ⟨hm, i1, i2⟩, hs⟩
      have i0 : ia' < a.size := by omega
      refine wpS_bind (wp_el i2 (wpS_bind (wp_el i0 (wpS_bind (wp_lt hO rfl (gb.at i2) (ga.at i0) ?_)))))
      refine iteS (fun c => wpS_bind (wp_el i2 ?_)) fun c => wpS_bind (wp_el i0 ?_)
      · have hm' := hm.pB i2 fun i h1 h2 => kL_lt (kL_false c) (sa _ i h1 h2)
        exact iteS (fun d => wpS_pure ⟨rfl, .inl ⟨_, _, rfl, hm'.done (.inr (by simpa using d))⟩⟩) fun d => by
          have d : ib' + 1 < b.size := by have : ¬ ib' + 1 = b.size := by simpa using d
                                          omega
          exact iteS (fun _ => wpS_pure ⟨rfl, .inr ⟨_, ia', ib' + 1, _, _, rfl, ⟨hm', i1, d⟩, by omega⟩⟩) fun _ => wpS_pure ⟨_, ia', ib' + 1, _, _, rfl, rfl, ⟨hm', i1, d⟩, by omega⟩
      · have hm' := hm.pA (by omega) fun i h1 h2 => kL_tr (kL_true (by simpa using c)) (sb _ i h1 h2)
        exact iteS (fun d => wpS_pure ⟨rfl, .inl ⟨_, _, rfl, last hm' (by simpa using d)⟩⟩) fun d => by
          have d : ia' + 1 + 1 < a.size := by have : ¬ ia' + 1 + 1 = a.size := by simpa using d
                                              omega
          exact iteS (fun _ => wpS_pure ⟨rfl, .inr ⟨_, ia' + 1, ib', _, _, rfl, ⟨hm', d, i2⟩, by omega⟩⟩) fun _ => wpS_pure ⟨_, ia' + 1, ib', _, _, rfl, rfl, ⟨hm', d, i2⟩, by omega⟩
    · rintro c _ ⟨out, ia', ib', ac, bc, rfl, rfl, hI, hs⟩
      exact ⟨rfl, .inr ⟨_, ia', ib', _, _, rfl, hI, by omega⟩⟩
    rintro c _ ⟨rfl, ⟨r, y, rfl, hr⟩ | ⟨out, ia', ib', ac, bc, rfl, I1, hs⟩⟩
    · exact wpS_pure ⟨_, rfl, _, _, rfl, hr⟩
    refine wpS_bind (wpS_lift (wpAny_rule ⟨rfl, ?_⟩))
    refine wpS_bind (wpS_mono (wpS_forRange (I := fun y c st' => ∃ out ja jb mg ac bc g', c = (none, out, ja, jb, mg, ac, bc) ∧ st' = mS κd xs p g' ∧ LoI κ a b R out ja jb ∧ ia' + ib' ≤ ja + jb) (Q := fun c st' => ∃ g', st' = mS κd xs p g' ∧ ((∃ r y, c = (some r, y) ∧ r.toList = R) ∨ ∃ out ja jb mg ac bc, c = (none, out, ja, jb, mg, ac, bc) ∧ LoI κ a b R out ja jb ∧ ia' + ib' ≤ ja + jb)) ?_ ?_ ⟨out, ia', ib', _, _, _, _, rfl, rfl, I1, Nat.le_refl _⟩) ?_)
    · rintro y c _ _ hy ⟨out, ja, jb, mg, ac, bc, g', rfl, rfl, ⟨hm, i1, i2⟩, hs⟩
      have n0 : ja + (a.size - ja) ≤ a.size := by omega
      have n1 : 0 < a.size - ja := by omega
      refine iteS (fun _ => wpS_bind (wpS_modify (wpS_bind (wp_el i2 (wpS_bind (gal_A hO rfl n0 n1 ga (gb.at i2) (fun i j h1 h2 => sa _ _ (by omega) (by omega)) ?_)))))) fun _ => wpS_bind (wpS_modify (wpS_bind (wp_el i2 (wpS_bind (gal_A hO rfl n0 n1 ga (gb.at i2) (fun i j h1 h2 => sa _ _ (by omega) (by omega)) ?_)))))
      all_goals
        rintro k (k1 : k ≤ a.size - ja) (k2 : ∀ i, i < k → kL κ (at0 a (ja + i)) (at0 b jb) = true) (k3 : ∀ i, k ≤ i → i < a.size - ja → kL κ (at0 a (ja + i)) (at0 b jb) = false)
        have ka : Mx (kL κ) a b R (out ++ a.extract ja (ja + k)) (ja + k) jb := hm.kA fun i j h1 h2 h3 h4 => by
          have := k2 (i - ja) (by omega)
          rw [show ja + (i - ja) = i by omega] at this
          exact kL_tr this (sb _ j h3 h4)
        have k4 : ∀ i, ja + k ≤ i → i < a.size → kL κ (at0 a i) (at0 b jb) = false := fun i h1 h2 => by
          have := k3 (i - ja) (by omega) (by omega)
          rwa [show ja + (i - ja) = i by omega] at this
        refine iteS (fun c => iteS (fun d => wpS_pure ⟨_, rfl, .inl ⟨_, _, rfl, last ka (by simpa using d)⟩⟩) fun d => iteS (fun d => wpS_pure ⟨_, rfl, .inl ⟨_, _, rfl, ka.done (.inl (by simpa using d))⟩⟩) fun d' => ?_) fun c => ?_
        have b2 : ja + k + 1 < a.size := by
          have d : ¬ ja + k + 1 = a.size := by simpa using d
          have d' : ¬ ja + k = a.size := by simpa using d'
          omega
        have hm2 := ka
        rotate_left
        have hk : k = 0 := Nat.eq_zero_of_not_pos c
        rw [hk, Nat.add_zero] at k4
        have b2 := i1
        have hm2 := hm
        all_goals
          have hm3 := hm2.pB i2 k4
          have b0 : _ < a.size := Nat.lt_of_succ_lt b2
          refine wpS_bind (wp_el i2 (iteS (fun d => wpS_pure ⟨_, rfl, .inl ⟨_, _, rfl, hm3.done (.inr (by simpa using d))⟩⟩) fun d => ?_))
          have i3 : jb + 1 < b.size := by have : ¬ jb + 1 = b.size := by simpa using d
                                          omega
          refine wpS_bind (wp_el b0 (wpS_bind (gal_B hO rfl (show jb + 1 + (b.size - (jb + 1)) ≤ b.size by omega) (show 0 < b.size - (jb + 1) by omega) gb (ga.at b0) (fun i j h1 h2 => sb _ _ (by omega) (by omega)) ?_)))
          rintro l (l1 : l ≤ b.size - (jb + 1)) l2 l3
          have kb := hm3.kB (k := l) fun i j h1 h2 h3 h4 => by
            have := l2 (j - (jb + 1)) (by omega)
            rw [show jb + 1 + (j - (jb + 1)) = j by omega] at this
            exact kL_lt this (sa _ i h1 h2)
          have l4 : ∀ j, jb + 1 + l ≤ j → j < b.size → kL κ _ (at0 b j) = true := fun j h1 h2 => by
            have := l3 (j - (jb + 1)) (by omega) (show _ < b.size - (jb + 1) by omega)
            rwa [show jb + 1 + (j - (jb + 1)) = j by omega] at this
          refine iteS (fun c => iteS (fun d => wpS_pure ⟨_, rfl, .inl ⟨_, _, rfl, kb.done (.inr (by simpa using d))⟩⟩) fun d => ?_) fun c => ?_
          have b3 : jb + 1 + l < b.size := by
            have d : ¬ jb + 1 + l = b.size := by simpa using d
            omega
          have hm4 := kb
          rotate_left
          have hk : l = 0 := Nat.eq_zero_of_not_pos c
          rw [hk, Nat.add_zero] at l4
          have b3 := i3
          have hm4 := hm3
          all_goals
            have hm5 := hm4.pA b0 l4
            refine wpS_bind (wp_el b0 (iteS (fun d => wpS_pure ⟨_, rfl, .inl ⟨_, _, rfl, last hm5 (by simpa using d)⟩⟩) fun d => ?_))
            have i4 : _ + 1 + 1 < a.size := Nat.lt_of_le_of_ne b2 fun e => d (by simpa using e)
            exact iteS (fun _ => wpS_pure ⟨_, rfl, .inr ⟨_, _, _, _, _, _, rfl, ⟨hm5, i4, b3⟩, by simp only; omega⟩⟩) fun _ => wpS_pure ⟨_, _, _, _, _, _, _, rfl, rfl, ⟨hm5, i4, b3⟩, by simp only; omega⟩
    · rintro c _ ⟨out, ja, jb, mg, ac, bc, g', rfl, rfl, hI, hs⟩
      exact ⟨_, rfl, .inr ⟨_, _, _, _, _, _, rfl, hI, hs⟩⟩
    rintro c _ ⟨g', rfl, ⟨r, y, rfl, hr⟩ | ⟨out, ja, jb, mg, ac, bc, rfl, I2, hs2⟩⟩
    · exact wpS_pure ⟨_, rfl, _, _, rfl, hr⟩
    exact wpS_bind (wpS_modify (wpS_pure ⟨_, ja, jb, _, _, rfl, rfl, I2, by omega⟩))
  · rintro c _ ⟨out, ia, ib, mg, g', rfl, rfl, ⟨_, h1, h2⟩, hx⟩
    omega
  · rintro c _ ⟨g', rfl, r, y, rfl, hr⟩
    exact wpS_pure (h _ _ hr)
end L2


set_option linter.all false
set_option maxRecDepth 100000
set_option maxHeartbeats 4000000
namespace L2
open PySem PyProof.Rows
theorem take_el {xs : Array Keyed} {i : Nat} (h0 : 0 < i) (hi : i ≤ xs.size) : xs.toList.take i = xs.toList.take (i - 1) ++ [at0 xs (i - 1)] := by
  have h : i - 1 < xs.toList.length := by rw [Array.length_toList]; omega
  have e := List.take_add_one (l := xs.toList) (i := i - 1)
  rw [show i - 1 + 1 = i by omega, List.getElem?_eq_getElem h, at_toList] at e
  exact e
theorem take_cut {xs : Array Keyed} {i n : Nat} (h : i ≤ n) : xs.toList.take n = xs.toList.take i ++ (xs.extract i n).toList := by
  rw [Array.toList_extract, List.extract_eq_take_drop]
  have := (List.take_append_drop i (xs.toList.take n)).symm
  rwa [List.take_take, Nat.min_eq_left h, List.drop_take] at this
theorem take_ext (xs : Array Keyed) (i : Nat) : (xs.extract 0 i).toList = xs.toList.take i := by
  rw [Array.toList_extract, List.extract_eq_take_drop]; rfl
theorem mem_cut2 {xs : Array Keyed} {i n : Nat} {x : Keyed} (h : x ∈ (xs.extract i n).toList) : ∃ j, i ≤ j ∧ j < n ∧ x = at0 xs j := by
  rw [Array.toList_extract, List.extract_eq_take_drop] at h
  obtain ⟨m, hm, rfl⟩ := List.mem_iff_getElem.mp h
  rw [List.length_take, List.length_drop, Array.length_toList] at hm
  refine ⟨i + m, by omega, by omega, ?_⟩
  rw [List.getElem_take, List.getElem_drop]
  exact at_toList _
section
variable {le : Keyed → Keyed → Bool} {a b out : Array Keyed} {na nb : Nat} {R : List Keyed}
def My (le : Keyed → Keyed → Bool) (a b : Array Keyed) (R : List Keyed) (out : Array Keyed) (na nb : Nat) : Prop := List.merge (a.toList.take na) (b.toList.take nb) le ++ out.toList.reverse = R
theorem My.pA (h : My le a b R out na nb) (h0 : 0 < na) (h1 : na ≤ a.size) (hc : ∀ j, j < nb → le (at0 a (na - 1)) (at0 b j) = false) : My le a b R (out.push (at0 a (na - 1))) (na - 1) nb := by
  unfold My at h ⊢
  rw [← h, take_el h0 h1, mgR1, Array.toList_push, List.reverse_append, List.append_assoc]
  · rfl
  intro u hu v hv
  obtain ⟨j, h1, h2, rfl⟩ := mem_takeA hv
  rw [List.mem_singleton.mp hu]
  exact hc j h1
theorem My.pB (h : My le a b R out na nb) (h0 : 0 < nb) (h1 : nb ≤ b.size) (hc : ∀ i, i < na → le (at0 a i) (at0 b (nb - 1)) = true) : My le a b R (out.push (at0 b (nb - 1))) na (nb - 1) := by
  unfold My at h ⊢
  rw [← h, take_el h0 h1, mgR2, Array.toList_push, List.reverse_append, List.append_assoc]
  · rfl
  intro u hu v hv
  obtain ⟨j, h1, h2, rfl⟩ := mem_takeA hu
  rw [List.mem_singleton.mp hv]
  exact hc j h1
theorem My.kA {k : Nat} (h : My le a b R out na nb) (hk : k ≤ na) (hc : ∀ i j, k ≤ i → i < na → j < nb → le (at0 a i) (at0 b j) = false) : My le a b R (out ++ (a.extract k na).reverse) k nb := by
  unfold My at h ⊢
  rw [← h, take_cut hk, mgR1, Array.toList_append, Array.toList_reverse, List.reverse_append, List.reverse_reverse, List.append_assoc]
  intro u hu v hv
  obtain ⟨i, h1, h2, rfl⟩ := mem_cut2 hu
  obtain ⟨j, h3, h4, rfl⟩ := mem_takeA hv
  exact hc i j h1 h2 h3
theorem My.kB {k : Nat} (h : My le a b R out na nb) (hk : k ≤ nb) (hc : ∀ i j, i < na → k ≤ j → j < nb → le (at0 a i) (at0 b j) = true) : My le a b R (out ++ (b.extract k nb).reverse) na k := by
  unfold My at h ⊢
  rw [← h, take_cut hk, mgR2, Array.toList_append, Array.toList_reverse, List.reverse_append, List.reverse_reverse, List.append_assoc]
  intro u hu v hv
  obtain ⟨i, h1, h2, rfl⟩ := mem_takeA hu
  obtain ⟨j, h3, h4, rfl⟩ := mem_cut2 hv
  exact hc i j h1 h3 h4
theorem My.done (h : My le a b R out na nb) (hc : na = 0 ∨ nb = 0) : (a.extract 0 na ++ b.extract 0 nb ++ out.reverse).toList = R := by
  unfold My at h
  rw [Array.toList_append, Array.toList_append, take_ext, take_ext, Array.toList_reverse, ← h]
  rcases hc with rfl | rfl
  · rw [List.take_zero, List.nil_merge, List.nil_append]
  · rw [List.take_zero, mg_nil, List.append_nil]
theorem My.last (h : My le a b R out na nb) (hc : ∀ i j, i < na → j < nb → i < a.size → le (at0 a i) (at0 b j) = false) : (b.extract 0 nb ++ a.extract 0 na ++ out.reverse).toList = R := by
  have e := mgL2 (le := le) (as := a.toList.take na) (l1 := b.toList.take nb) (l2 := []) fun u hu v hv => by
    obtain ⟨i, h1, h2, rfl⟩ := mem_takeA hu
    obtain ⟨j, h3, h4, rfl⟩ := mem_takeA hv
    exact hc i j h1 h3 h2
  rw [List.append_nil, mg_nil] at e
  unfold My at h
  rw [Array.toList_append, Array.toList_append, take_ext, take_ext, Array.toList_reverse, ← h, e]
end
variable {P : Program} {w : World} {A : Around} {s : Shared} {κ : KeyKind} {κd : SortKind} {E : Value → Shared → Prop}
def mergeHi' : Array Keyed → Array Keyed → StateT SortSt Sem (Array Keyed) := sortPriv% PySem.Builtin.mergeHi
def HiI (κ : KeyKind) (a b : Array Keyed) (R : List Keyed) (out : Array Keyed) (na nb : Nat) : Prop := My (kL κ) a b R out na nb ∧ 0 < na ∧ na ≤ a.size ∧ 1 < nb ∧ nb ≤ b.size
theorem wp_mergeHi {a b xs : Array Keyed} {p : Array (Nat × Nat × Nat)} {g : Nat} {Q : Array Keyed → SortSt → Prop} (hO : LtOk P w A s κ κd) (ga : Gk κ a) (gb : Gk κ b) (sa : SrA κ a) (sb : SrA κ b) (ha : 0 < a.size) (hb : 0 < b.size) (h0 : kL κ (at0 a 0) (at0 b 0) = false) (hl : ∀ j, j < b.size → kL κ (at0 a (a.size - 1)) (at0 b j) = false)
    (h : ∀ out g', out.toList = List.merge a.toList b.toList (kL κ) → Q out (mS κd xs p g')) : wpS (model P w) A E s (mergeHi' a b) Q (mS κd xs p g) := by
  unfold mergeHi'
  obtain ⟨R, hR⟩ : ∃ R, List.merge a.toList b.toList (kL κ) = R := ⟨_, rfl⟩
  rw [hR] at h
  have m0 : My (kL κ) a b R #[at0 a (a.size - 1)] (a.size - 1) b.size := My.pA (out := #[]) (by unfold My; rw [← Array.length_toList, List.take_length, ← Array.length_toList, List.take_length, hR]; simp) ha (Nat.le_refl _) fun j hj => hl j hj
  have last : ∀ {out na nb}, My (kL κ) a b R out na nb → nb = 1 → (b.extract 0 nb ++ a.extract 0 na ++ out.reverse).toList = R := fun hm e => hm.last fun i j h1 h2 h3 => by
    have : j = 0 := by omega
    rw [this]
    exact kL_lt h0 (sa 0 i (by omega) h3)
  refine wpS_bind (wpS_lift (wpAny_rule ⟨rfl, ?_⟩))
  have ha' : a.size - 1 < a.size := by omega
  refine wpS_bind (wp_el ha' ?_)
  refine iteS (fun c => wpS_pure (h _ _ (m0.done (.inl (by simpa using c))))) fun c1 => iteS (fun c => wpS_pure (h _ _ (last m0 (by simpa using c)))) fun c2 => ?_
  have c1 : 0 < a.size - 1 := Nat.pos_of_ne_zero (by simpa using c1)
  have c2 : 1 < b.size := Nat.lt_of_le_of_ne hb fun e => c2 (by simpa using e.symm)
  refine wpS_bind (wpS_get (wpS_bind (wpS_mono (wpS_forRange (I := fun x c st' => ∃ na nb out mg g', c = (none, na, nb, out, mg) ∧ st' = mS κd xs p g' ∧ HiI κ a b R out na nb ∧ na + nb + x + 1 ≤ a.size + b.size) (Q := fun c st' => ∃ g', st' = mS κd xs p g' ∧ ∃ r y, c = (some r, y) ∧ r.toList = R) ?_ ?_ ⟨a.size - 1, b.size, _, _, _, rfl, rfl, ⟨m0, c1, Nat.le_of_lt ha', c2, Nat.le_refl _⟩, by omega⟩) ?_)))
  · rintro x c _ _ hx ⟨na, nb, out, mg, g', rfl, rfl, I0, hxx⟩
    refine wpS_bind (wpS_mono (wpS_forRange (I := fun y c st' => ∃ na' nb' out ac bc, c = (none, na', nb', out, ac, bc) ∧ st' = mS κd xs p g' ∧ HiI κ a b R out na' nb' ∧ na' + nb' + y = na + nb) (Q := fun c st' => st' = mS κd xs p g' ∧ ((∃ r y, c = (some r, y) ∧ r.toList = R) ∨ ∃ na' nb' out ac bc, c = (none, na', nb', out, ac, bc) ∧ HiI κ a b R out na' nb' ∧ na' + nb' + 1 ≤ na + nb)) ?_ ?_ ⟨na, nb, out, _, _, rfl, rfl, I0, rfl⟩) ?_)
    · rintro y c _ _ hy ⟨na', nb', out, ac, bc, rfl, rfl, ⟨hm, i1, i2, i3, i4⟩, hs⟩
      have j1 : na' - 1 < a.size := by omega
      have j2 : nb' - 1 < b.size := by omega
      refine wpS_bind (wp_el j2 (wpS_bind (wp_el j1 (wpS_bind (wp_lt hO rfl (gb.at j2) (ga.at j1) ?_)))))
      refine iteS (fun c => wpS_bind (wp_el j1 ?_)) fun c => wpS_bind (wp_el j2 ?_)
      · have hm' := hm.pA i1 i2 fun j h1 => kL_lt2 (kL_false c) (sb j (nb' - 1) (Nat.le_sub_one_of_lt h1) j2)
        exact iteS (fun d => wpS_pure ⟨rfl, .inl ⟨_, _, rfl, hm'.done (.inl (by simpa using d))⟩⟩) fun d => by
          have d : 0 < na' - 1 := Nat.pos_of_ne_zero (by simpa using d)
          exact iteS (fun _ => wpS_pure ⟨rfl, .inr ⟨na' - 1, nb', _, _, _, rfl, ⟨hm', d, Nat.le_of_lt j1, i3, i4⟩, by omega⟩⟩) fun _ => wpS_pure ⟨na' - 1, nb', _, _, _, rfl, rfl, ⟨hm', d, Nat.le_of_lt j1, i3, i4⟩, by omega⟩
      · have hm' := hm.pB (by omega) i4 fun i h1 => kL_tr (sa i _ (by omega) j1) (kL_true (by simpa using c))
        exact iteS (fun d => wpS_pure ⟨rfl, .inl ⟨_, _, rfl, last hm' (by simpa using d)⟩⟩) fun d => by
          have d : 1 < nb' - 1 := Nat.lt_of_le_of_ne (by omega) fun e => d (by simpa using e.symm)
          exact iteS (fun _ => wpS_pure ⟨rfl, .inr ⟨na', nb' - 1, _, _, _, rfl, ⟨hm', i1, i2, d, Nat.le_of_lt j2⟩, by omega⟩⟩) fun _ => wpS_pure ⟨na', nb' - 1, _, _, _, rfl, rfl, ⟨hm', i1, i2, d, Nat.le_of_lt j2⟩, by omega⟩
    · rintro c _ ⟨na', nb', out, ac, bc, rfl, rfl, hI, hs⟩
      exact ⟨rfl, .inr ⟨na', nb', _, _, _, rfl, hI, by have : max 0 (a.size + b.size) = a.size + b.size := by omega
                                                       omega⟩⟩
    rintro c _ ⟨rfl, ⟨r, y, rfl, hr⟩ | ⟨na', nb', out, ac, bc, rfl, I1, hs⟩⟩
    · exact wpS_pure ⟨_, rfl, _, _, rfl, hr⟩
    refine wpS_bind (wpS_lift (wpAny_rule ⟨rfl, ?_⟩))
    refine wpS_bind (wpS_mono (wpS_forRange (I := fun y c st' => ∃ ja jb out mg ac bc g', c = (none, ja, jb, out, mg, ac, bc) ∧ st' = mS κd xs p g' ∧ HiI κ a b R out ja jb ∧ ja + jb ≤ na' + nb') (Q := fun c st' => ∃ g', st' = mS κd xs p g' ∧ ((∃ r y, c = (some r, y) ∧ r.toList = R) ∨ ∃ ja jb out mg ac bc, c = (none, ja, jb, out, mg, ac, bc) ∧ HiI κ a b R out ja jb ∧ ja + jb ≤ na' + nb')) ?_ ?_ ⟨na', nb', out, _, _, _, _, rfl, rfl, I1, Nat.le_refl _⟩) ?_)
    · rintro y c _ _ hy ⟨ja, jb, out, mg, ac, bc, g', rfl, rfl, ⟨hm, i1, i2, i3, i4⟩, hs⟩
      have j2 : jb - 1 < b.size := by omega
      have n0 : 0 + ja ≤ a.size := by omega
      have n1 : ja - 1 < ja := by omega
      refine iteS (fun _ => wpS_bind (wpS_modify (wpS_bind (wp_el j2 (wpS_bind (gal_A hO rfl n0 n1 ga (gb.at j2) (fun i j h1 (h2 : j < ja) => sa _ _ (by omega) (by omega)) ?_)))))) fun _ => wpS_bind (wpS_modify (wpS_bind (wp_el j2 (wpS_bind (gal_A hO rfl n0 n1 ga (gb.at j2) (fun i j h1 (h2 : j < ja) => sa _ _ (by omega) (by omega)) ?_)))))
      all_goals
        simp only [Nat.zero_add]
        rintro k (k1 : k ≤ ja) (k2 : ∀ i, i < k → kL κ (at0 a i) (at0 b (jb - 1)) = true) (k3 : ∀ i, k ≤ i → i < ja → kL κ (at0 a i) (at0 b (jb - 1)) = false)
        have ka := hm.kA k1 fun i j h1 h2 h3 => kL_lt2 (k3 i h1 h2) (sb j _ (by omega) j2)
        refine iteS (fun c => iteS (fun d => wpS_pure ⟨_, rfl, .inl ⟨_, _, rfl, ka.done (.inl (by simpa using d))⟩⟩) fun d => ?_) fun c => ?_
        have b2 : 0 < k := Nat.pos_of_ne_zero (by simpa using d)
        have b5 : k ≤ ja := k1
        have hm2 := ka
        rotate_left
        have hk : k = ja := by have c : ¬ ja - k > 0 := c
                               omega
        have b2 := i1
        have b5 := Nat.le_refl ja
        rw [hk] at k2
        have hm2 := hm
        all_goals
          have hm3 := hm2.pB (by omega) i4 k2
          have b0 : _ - 1 < a.size := Nat.lt_of_lt_of_le (Nat.sub_lt b2 Nat.one_pos) (Nat.le_trans b5 i2)
          refine wpS_bind (wp_el j2 (iteS (fun d => wpS_pure ⟨_, rfl, .inl ⟨_, _, rfl, last hm3 (by simpa using d)⟩⟩) fun d => ?_))
          have i5 : 1 < jb - 1 := Nat.lt_of_le_of_ne (by omega) fun e => d (by simpa using e.symm)
          refine wpS_bind (wp_el b0 (wpS_bind (gal_B hO rfl (show 0 + (jb - 1) ≤ b.size by omega) (show jb - 1 - 1 < jb - 1 by omega) gb (ga.at b0) (fun i j h1 h2 => sb _ _ (by omega) (by omega)) ?_)))
          simp only [Nat.zero_add]
          rintro l (l1 : l ≤ jb - 1) l2 l3
          have kb := hm3.kB l1 fun i j h1 h2 h3 => kL_tr (sa i _ (by omega) b0) (l3 j h2 h3)
          refine iteS (fun c => iteS (fun d => wpS_pure ⟨_, rfl, .inl ⟨_, _, rfl, last kb (by simpa using d)⟩⟩) fun d => iteS (fun d' => wpS_pure ⟨_, rfl, .inl ⟨_, _, rfl, kb.done (.inr (by simpa using d'))⟩⟩) fun d' => ?_) fun c => ?_
          have b3 : 1 < l := by
            have d : ¬ l = 1 := by simpa using d
            have d' : ¬ l = 0 := by simpa using d'
            omega
          have b4 : l ≤ jb - 1 := l1
          have hm4 := kb
          rotate_left
          have hk : l = jb - 1 := by have c : ¬ jb - 1 - l > 0 := c
                                     omega
          have b3 := i5
          have b4 := Nat.le_refl (jb - 1)
          rw [hk] at l2
          have hm4 := hm3
          all_goals
            have hm5 := hm4.pA b2 (Nat.le_trans b5 i2) l2
            refine wpS_bind (wp_el b0 (iteS (fun d => wpS_pure ⟨_, rfl, .inl ⟨_, _, rfl, hm5.done (.inl (by simpa using d))⟩⟩) fun d => ?_))
            have i6 : 0 < _ - 1 := Nat.pos_of_ne_zero fun e => d (by simpa using e)
            exact iteS (fun _ => wpS_pure ⟨_, rfl, .inr ⟨_, _, _, _, _, _, rfl, ⟨hm5, i6, Nat.le_of_lt b0, b3, by omega⟩, by omega⟩⟩) fun _ => wpS_pure ⟨_, _, _, _, _, _, _, rfl, rfl, ⟨hm5, i6, Nat.le_of_lt b0, b3, by omega⟩, by omega⟩
    · rintro c _ ⟨ja, jb, out, mg, ac, bc, g', rfl, rfl, hI, hs⟩
      exact ⟨_, rfl, .inr ⟨_, _, _, _, _, _, rfl, hI, hs⟩⟩
    rintro c _ ⟨g', rfl, ⟨r, y, rfl, hr⟩ | ⟨ja, jb, out, mg, ac, bc, rfl, I2, hs2⟩⟩
    · exact wpS_pure ⟨_, rfl, _, _, rfl, hr⟩
    exact wpS_bind (wpS_modify (wpS_pure ⟨ja, jb, _, _, _, rfl, rfl, I2, by omega⟩))
  · rintro c _ ⟨na, nb, out, mg, g', rfl, rfl, ⟨_, h1, _, h2, _⟩, hx⟩
    have : max 0 (a.size + b.size) = a.size + b.size := by omega
    omega
  · rintro c _ ⟨g', rfl, r, y, rfl, hr⟩
    exact wpS_pure (h _ _ hr)
end L2


set_option linter.all false
set_option maxRecDepth 100000
set_option maxHeartbeats 4000000
namespace L2
open PySem PyProof.Rows
theorem wb_set {l : List Keyed} {i : Nat} {x : Keyed} (h : i < l.length) : (l.set i x).take (i + 1) = l.take i ++ [x] := by
  rw [List.set_eq_take_append_cons_drop, if_pos h, List.take_append, List.length_take, Nat.min_eq_left (Nat.le_of_lt h), List.take_of_length_le (by rw [List.length_take]; omega), show i + 1 - i = 1 by omega]
  rfl
theorem wb {o : Nat} : ∀ (m : List Keyed) (xs : Array Keyed) (n : Nat), o + n + m.length ≤ xs.size → ((m.zipIdx n).foldl (fun a (x : Keyed × Nat) => match x with | (p, j) => a.setIfInBounds (o + j) p) xs).toList = xs.toList.take (o + n) ++ m ++ xs.toList.drop (o + n + m.length)
  | [], xs, n, h => by simp
  | x :: m, xs, n, h => by
    rw [List.length_cons] at h
    rw [List.zipIdx_cons, List.foldl_cons, wb m _ (n + 1) (by rw [Array.size_setIfInBounds]; omega), Array.toList_setIfInBounds, ← Nat.add_assoc, wb_set (by rw [Array.length_toList]; omega), List.drop_set_of_lt (by omega), List.length_cons, List.append_assoc, List.append_assoc, show o + n + 1 + m.length = o + n + (m.length + 1) by omega, List.append_assoc]
    rfl
variable {P : Program} {w : World} {A : Around} {s : Shared} {κ : KeyKind} {κd : SortKind} {E : Value → Shared → Prop}
theorem wpS_set {st st' : SortSt} {Q : PUnit → SortSt → Prop} {M : Model} (h : Q ⟨⟩ st') : wpS M A E s (set st' : StateT SortSt Sem PUnit) Q st := by
  unfold wpS
  rw [StateT.run_set]
  exact wpAny_pure ⟨rfl, h⟩
theorem at_cut {xs : Array Keyed} {i n j : Nat} (h : n ≤ xs.size) (hj : i + j < n) : at0 (xs.extract i n) j = at0 xs (i + j) := by
  unfold at0
  rw [Array.getElem?_extract, if_pos (by omega)]
def Sg (κ : KeyKind) (xs : Array Keyed) (o n : Nat) : Prop := ∀ i j, i ≤ j → j < n → kL κ (at0 xs (o + i)) (at0 xs (o + j)) = true
theorem Sg.cut {xs : Array Keyed} {o n e : Nat} (h : Sg κ xs o n) (he : e ≤ xs.size) (hn : e ≤ o + n) : SrA κ (xs.extract o e) := fun i j hij hj => by
  rw [Array.size_extract] at hj
  rw [at_cut he (by omega), at_cut he (by omega)]
  exact h i j hij (by omega)
theorem Gk.cut {xs : Array Keyed} {o e : Nat} (h : Gk κ xs) : Gk κ (xs.extract o e) := fun p hp => by
  rw [Array.toList_extract, List.extract_eq_take_drop] at hp
  exact h p (List.mem_of_mem_drop (List.mem_of_mem_take hp))
theorem cut3 {xs : Array Keyed} {i j n : Nat} (h1 : i ≤ j) (h2 : j ≤ n) (h3 : n ≤ xs.size) : (xs.extract i n).toList = (xs.extract i j).toList ++ (xs.extract j n).toList := by
  rw [← Array.toList_append, Array.extract_append_extract, Nat.min_eq_left h1, Nat.max_eq_right h2]
theorem whole {xs : Array Keyed} {i j : Nat} (h1 : i ≤ j) (h2 : j ≤ xs.size) : xs.toList = xs.toList.take i ++ (xs.extract i j).toList ++ xs.toList.drop j := by
  rw [← take_cut h1, List.take_append_drop]
theorem wp_mergeAt {xs : Array Keyed} {p : Array (Nat × Nat × Nat)} {g i sa na pw sb nb pw' : Nat} {Q : Bool → SortSt → Prop} (hO : LtOk P w A s κ κd) (hG : Gk κ xs) (h1 : p[i]? = some (sa, na, pw)) (h2 : p[i + 1]? = some (sb, nb, pw')) (hb : sb = sa + na) (n1 : 0 < na) (n2 : 0 < nb) (he : sb + nb ≤ xs.size) (ra : Sg κ xs sa na) (rb : Sg κ xs sb nb)
    (h : ∀ xs' g', xs'.toList = xs.toList.take sa ++ List.merge (xs.extract sa sb).toList (xs.extract sb (sb + nb)).toList (kL κ) ++ xs.toList.drop (sb + nb) → Q true (mS κd xs' ((p.setIfInBounds i (sa, na + nb, pw)).eraseIdxIfInBounds (i + 1)) g')) : wpS (model P w) A E s (PyProof.Rows.mergeAt' i) Q (mS κd xs p g) := by
  unfold PyProof.Rows.mergeAt'
  refine wpS_bind (wpS_get ?_)
  show wpS _ _ _ _ (match (p[i]?, p[i + 1]?) with | (some (sa, na, power), some (sb, nb, snd)) => _ | x => _) _ _
  rw [h1, h2]
  subst hb
  have flat : (∀ i j, i < na → j < nb → kL κ (at0 xs (sa + i)) (at0 xs (sa + na + j)) = true) → xs.toList = xs.toList.take sa ++ List.merge (xs.extract sa (sa + na)).toList (xs.extract (sa + na) (sa + na + nb)).toList (kL κ) ++ xs.toList.drop (sa + na + nb) := fun hc => by
    have e := mgL1 (le := kL κ) (l1 := (xs.extract sa (sa + na)).toList) (l2 := []) (bs := (xs.extract (sa + na) (sa + na + nb)).toList) fun u hu v hv => by
      obtain ⟨i, a1, a2, rfl⟩ := mem_cut2 hu
      obtain ⟨j, b1, b2, rfl⟩ := mem_cut2 hv
      have := hc (i - sa) (j - (sa + na)) (by omega) (by omega)
      rwa [show sa + (i - sa) = i by omega, show sa + na + (j - (sa + na)) = j by omega] at this
    rw [List.append_nil, List.nil_merge] at e
    rw [e, ← cut3 (by omega) (by omega) he]
    exact whole (by omega) he
  have hB0 := hG.at (i := sa + na) (by omega)
  refine wpS_bind (wpS_set (wpS_bind (wp_el (xs := xs) (i := sa + na) (by omega) (wpS_bind (gal_A hO rfl (arr := xs) (show sa + na ≤ xs.size by omega) n1 hG hB0 ra fun k k1 k2 k3 => ?_)))))
  refine iteS (fun c => wpS_pure (h xs g (flat fun i j hi hj => ?_))) fun c => ?_
  · have c : na - k = 0 := by simpa using c
    exact kL_tr (k2 i (by omega)) (rb 0 j (by omega) hj)
  have c : ¬ na - k = 0 := by simpa using c
  have hl : sa + k + (na - k) - 1 < xs.size := by omega
  refine wpS_bind (wp_el (xs := xs) hl (wpS_bind (gal_B hO rfl (arr := xs) he (show nb - 1 < nb by omega) hG (hG.at hl) rb fun l l1 l2 l3 => ?_)))
  have el : sa + k + (na - k) - 1 = sa + (na - 1) := by omega
  rw [el] at l2 l3
  refine iteS (fun d => wpS_pure (h xs g (flat fun i j hi hj => ?_))) fun d => ?_
  · have d : l = 0 := by simpa using d
    exact kL_tr (ra i (na - 1) (by omega) (by omega)) (l3 j (by omega) hj)
  have d : ¬ l = 0 := by simpa using d
  obtain ⟨x, ex⟩ : ∃ x, xs.extract (sa + k) (sa + na) = x := ⟨_, rfl⟩
  obtain ⟨y, ey⟩ : ∃ y, xs.extract (sa + na) (sa + na + l) = y := ⟨_, rfl⟩
  have sx : x.size = na - k := by rw [← ex, Array.size_extract]; omega
  have sy : y.size = l := by rw [← ey, Array.size_extract]; omega
  have gx : Gk κ x := ex ▸ hG.cut
  have gy : Gk κ y := ey ▸ hG.cut
  have rx : SrA κ x := by
    rw [← ex]
    exact Sg.cut (n := na - k) (fun i j hij hj => by
      have := ra (k + i) (k + j) (by omega) (by omega)
      rwa [← Nat.add_assoc, ← Nat.add_assoc] at this) (by omega) (by omega)
  have ry : SrA κ y := by
    rw [← ey]
    exact rb.cut (by omega) (by omega)
  have ax : ∀ i, i < na - k → at0 x i = at0 xs (sa + k + i) := fun i hi => by rw [← ex]; exact at_cut (by omega) (by omega)
  have ay : ∀ i, i < l → at0 y i = at0 xs (sa + na + i) := fun i hi => by rw [← ey]; exact at_cut (by omega) (by omega)
  have f0 : kL κ (at0 x 0) (at0 y 0) = false := by
    rw [ax 0 (by omega), ay 0 (by omega)]
    exact k3 k (Nat.le_refl _) (by omega)
  have fl : ∀ j, j < y.size → kL κ (at0 x (x.size - 1)) (at0 y j) = false := fun j hj => by
    rw [sy] at hj
    rw [sx, ax _ (by omega), ay j hj, show sa + k + (na - k - 1) = sa + (na - 1) by omega]
    exact l2 j hj
  have fin : ∀ (out xs' : Array Keyed), out.toList = List.merge x.toList y.toList (kL κ) → xs'.toList = xs.toList.take (sa + k) ++ out.toList ++ xs.toList.drop (sa + k + out.toList.length) → xs'.toList = xs.toList.take sa ++ List.merge (xs.extract sa (sa + na)).toList (xs.extract (sa + na) (sa + na + nb)).toList (kL κ) ++ xs.toList.drop (sa + na + nb) := fun out xs' e1 e2 => by
    have hlen : out.toList.length = na - k + l := by rw [e1, (List.merge_perm_append _).length_eq, List.length_append, Array.length_toList, Array.length_toList, sx, sy]
    rw [e2, cut3 (i := sa) (j := sa + k) (by omega) (by omega) (by omega), cut3 (i := sa + na) (j := sa + na + l) (by omega) (by omega) he, ex, ey, mgL1, mgR2, ← e1, hlen, take_cut (i := sa) (n := sa + k) (by omega)]
    · rw [show sa + k + (na - k + l) = sa + na + l by omega]
      have := drop_cut xs (sa + na + l) (nb - l)
      rw [show sa + na + l + (nb - l) = sa + na + nb by omega] at this
      rw [this]
      simp only [List.append_assoc]
    · intro u hu v hv
      rw [← ex] at hu
      obtain ⟨i, a1, a2, rfl⟩ := mem_cut2 hu
      obtain ⟨j, b1, b2, rfl⟩ := mem_cut2 hv
      have r1 := ra (i - sa) (na - 1) (by omega) (by omega)
      have r2 := l3 (j - (sa + na)) (by omega) (by omega)
      rw [show sa + (i - sa) = i by omega] at r1
      rw [show sa + na + (j - (sa + na)) = j by omega] at r2
      exact kL_tr r1 r2
    · intro u hu v hv
      rw [← ey] at hv
      obtain ⟨i, a1, a2, rfl⟩ := mem_cut2 hu
      have hv' : ∃ j, sa + na ≤ j ∧ j < sa + na + nb ∧ v = at0 xs j := by
        rcases List.mem_append.mp hv with z | z
        · obtain ⟨j, b1, b2, rfl⟩ := mem_cut2 z
          exact ⟨j, b1, by omega, rfl⟩
        · obtain ⟨j, b1, b2, rfl⟩ := mem_cut2 z
          exact ⟨j, by omega, b2, rfl⟩
      obtain ⟨j, b1, b2, rfl⟩ := hv'
      have r1 := k2 (i - sa) (by omega)
      have r2 := rb 0 (j - (sa + na)) (by omega) (by omega)
      rw [show sa + (i - sa) = i by omega] at r1
      rw [show sa + na + (j - (sa + na)) = j by omega] at r2
      exact kL_tr r1 r2
  have wbo : ∀ out : Array Keyed, out.toList = List.merge x.toList y.toList (kL κ) → _ := fun out e1 => wb (o := sa + k) out.toList xs 0 (by
    rw [e1, (List.merge_perm_append _).length_eq, List.length_append, Array.length_toList, Array.length_toList, sx, sy]
    omega)
  refine iteS (fun _ => wpS_bind ?_) fun _ => wpS_bind ?_
  · rw [ex, ey]
    exact wp_mergeLo (xs := xs) hO gx gy rx ry (by omega) (by omega) f0 fl fun out g' e1 => wpS_bind (wpS_modify (wpS_bind (wpS_get (wpS_pure (h _ _ (fin out _ e1 (wbo out e1)))))))
  · rw [ex, ey]
    exact wp_mergeHi (xs := xs) hO gx gy rx ry (by omega) (by omega) f0 fl fun out g' e1 => wpS_bind (wpS_modify (wpS_bind (wpS_get (wpS_pure (h _ _ (fin out _ e1 (wbo out e1)))))))
end L2


set_option linter.all false
set_option maxRecDepth 100000
set_option maxHeartbeats 4000000
namespace L2
open PySem PyProof.Rows
variable {P : Program} {w : World} {A : Around} {s : Shared} {κ : KeyKind} {κd : SortKind} {E : Value → Shared → Prop}
theorem KK_at {xs : Array Keyed} {i : Nat} (hi : i < xs.size) : KK κ xs i = kx κ (at0 xs i) := by
  unfold KK at0 kx
  rw [getElem?_pos xs i hi]
  rfl
theorem wp_ltAt {xs : Array Keyed} {p : Array (Nat × Nat × Nat)} {g i j : Nat} {Q : Option Bool → SortSt → Prop} (hO : LtOk P w A s κ κd) (hG : Gk κ xs) (hi : i < xs.size) (hj : j < xs.size) (h : Q (some (κ.blt (KK κ xs i) (KK κ xs j))) (mS κd xs p g)) : wpS (model P w) A E s (ltAt' i j) Q (mS κd xs p g) := by
  rw [ltAt'_eq]
  rw [KK_at hi, KK_at hj] at h
  exact wpS_bind (wpS_get (wpS_bind (wp_el (xs := xs) hi (wpS_bind (wp_el (xs := xs) hj (wp_lt hO rfl (hG.at hi) (hG.at hj) h))))))
def Sk (κ : KeyKind) (xs : Array Keyed) (lo n : Nat) : Prop := ∀ i j, lo ≤ i → i ≤ j → j < lo + n → κ.kle (KK κ xs i) (KK κ xs j)
def Nk (κ : KeyKind) (xs : Array Keyed) (lo n : Nat) : Prop := ∀ i j, lo ≤ i → i ≤ j → j < lo + n → κ.kle (KK κ xs j) (KK κ xs i)
theorem Gk.perm {xs ys : Array Keyed} (h : Gk κ xs) (hp : ys.Perm xs) : Gk κ ys := fun p hm => h p ((Array.perm_iff_toList_perm.mp hp).mem_iff.mp hm)

def Pm (lo : Nat) (xs ys : Array Keyed) : Prop := ys.Perm xs ∧ ∀ i, i < lo → ys[i]? = xs[i]?
theorem Pm.mir {lo i j : Nat} {xs ys : Array Keyed} (h : Pm lo xs ys) (hi : lo ≤ i) (hj : j ≤ ys.size) : Pm lo xs (mirror ys i j ((j - i) / 2)) := ⟨(mirror_perm ..).trans h.1, fun k hk => by
  rw [getElem?_mirror_all hj, if_neg (by omega)]
  exact h.2 k hk⟩
theorem wp_asc {f : Nat → AscSt → StateT SortSt Sem (ForInStep AscSt)} {xs : Array Keyed} {lo a nrem : Nat} {st : SortSt} {Q : AscSt → SortSt → Prop} (ha : 1 ≤ a) (han : a ≤ nrem)
    (hf : ∀ x n Q', 1 ≤ n → n < nrem → (κ.blt (KK κ xs (lo + n)) (KK κ xs (lo + n - 1)) = true → Q' (.done (none, n)) st) → (κ.blt (KK κ xs (lo + n)) (KK κ xs (lo + n - 1)) = false → Q' (.yield (none, n + 1)) st) → wpS (model P w) A E s (f x (none, n)) Q' st)
    (hs : Sk κ xs lo a) (h : ∀ n, a ≤ n → n ≤ nrem → Sk κ xs lo n → (n = nrem ∨ κ.blt (KK κ xs (lo + n)) (KK κ xs (lo + n - 1)) = true) → Q (none, n) st) : wpS (model P w) A E s (forIn [a:nrem] (none, a) f) Q st := by
  refine wpS_forRange (I := fun x c st' => st' = st ∧ c = (none, x) ∧ Sk κ xs lo x) ?_ ?_ ⟨rfl, rfl, hs⟩
  · rintro x c _ hx hx2 ⟨rfl, rfl, hs'⟩
    refine hf _ _ _ (by omega) hx2 (fun e => h x hx (by omega) hs' (.inr e)) fun e => ⟨rfl, rfl, fun i j h1 h2 h3 => ?_⟩
    by_cases hj : j < lo + x
    · exact hs' i j h1 h2 hj
    · have hj' : j = lo + x := by omega
      subst hj'
      by_cases hi : i = lo + x
      · rw [hi]; exact KeyOrd.kle_refl _
      · exact KeyOrd.kle_trans (hs' i (lo + x - 1) h1 (by omega) (by omega)) e
  · rintro c _ ⟨rfl, rfl, hs'⟩
    rw [Nat.max_eq_right han] at hs' ⊢
    exact h nrem han (Nat.le_refl _) hs' (.inl rfl)
theorem wp_countRun {xs : Array Keyed} {p : Array (Nat × Nat × Nat)} {g lo nrem : Nat} {Q : Option Nat → SortSt → Prop} (hO : LtOk P w A s κ κd) (hG : Gk κ xs) (hn : lo + nrem = xs.size) (h1 : 1 ≤ nrem)
    (h : ∀ m ys, Pm lo xs ys → 1 ≤ m → m ≤ nrem → Sk κ ys lo m → Q (some m) (mS κd ys p g)) : wpS (model P w) A E s (countRun' lo nrem) Q (mS κd xs p g) := by
  have p0 : Pm lo xs xs := ⟨.refl _, fun _ _ => rfl⟩
  have ask : ∀ {ys n} {Q' : ForInStep AscSt → SortSt → Prop}, Pm lo xs ys → 1 ≤ n → n < nrem → (κ.blt (KK κ ys (lo + n)) (KK κ ys (lo + n - 1)) = true → Q' (.done (none, n)) (mS κd ys p g)) → (κ.blt (KK κ ys (lo + n)) (KK κ ys (lo + n - 1)) = false → Q' (.yield (none, n + 1)) (mS κd ys p g)) → ∀ {B : Option Bool → StateT SortSt Sem (ForInStep AscSt)}, (∀ b, B (some b) = if b = true then pure (.done (none, n)) else pure (.yield (none, n + 1))) → wpS (model P w) A E s (ltAt' (lo + n) (lo + n - 1) >>= B) Q' (mS κd ys p g) := fun hp a1 a2 hd hy B eB => by
    have sz := hp.1.size_eq
    refine wpS_bind (wp_ltAt hO (hG.perm hp.1) (by omega) (by omega) ?_)
    rw [eB]
    exact iteS (fun c => wpS_pure (hd c)) fun c => wpS_pure (hy (by simpa using c))
  unfold countRun'
  refine wpS_bind (wp_asc (xs := xs) (lo := lo) (Nat.le_refl 1) h1 (fun x n Q' a1 a2 hd hy => ask p0 a1 a2 hd hy fun b => rfl) (fun i j a1 a2 a3 => by
    have : i = j := by omega
    rw [this]; exact KeyOrd.kle_refl _) fun n n1 n2 hs hor => ?_)
  refine iteS (fun c => wpS_pure (h n xs p0 n1 n2 hs)) fun c => ?_
  have c : ¬ n = nrem := by simpa using c
  have hlt := hor.resolve_left c
  refine iteS (fun d => wpS_bind (wp_ltAt hO hG (by omega) (show lo + n - 1 < _ by omega) (iteS (fun _ => wpS_pure (h n xs p0 n1 n2 hs)) fun e => wpS_bind (wpS_reverse ?_)))) fun d => ?_
  have e : κ.blt (KK κ xs lo) (KK κ xs (lo + n - 1)) = false := by simpa using e
  have hall : ∀ k, lo ≤ k → k < lo + n → KK κ xs k = KK κ xs (lo + n - 1) := fun k k1 k2 => KeyOrd.kle_antisymm (hs k _ k1 (by omega) (by omega)) (KeyOrd.kle_trans e (hs lo k (Nat.le_refl _) k1 k2))
  have pz := p0.mir (i := lo) (j := lo + n) (Nat.le_refl _) (by omega)
  obtain ⟨zs, ez⟩ : ∃ zs, mirror xs lo (lo + n) ((lo + n - lo) / 2) = zs := ⟨_, rfl⟩
  have hK : ∀ k, KK κ zs k = KK κ xs k := fun k => by rw [← ez]; exact KK_mirror_equal (by omega) hall k
  rw [ez] at pz
  have hz : Nk κ zs lo (n + 1) := fun i j a1 a2 a3 => by
    rw [hK, hK]
    by_cases hj : j < lo + n
    · rw [hall i a1 (by omega), hall j (by omega) hj]; exact KeyOrd.kle_refl _
    · have : j = lo + n := by omega
      subst this
      by_cases hi : i = lo + n
      · rw [hi]; exact KeyOrd.kle_refl _
      · rw [hall i a1 (by omega)]; exact KeyOrd.kle_of_klt hlt
  show wpS (model P w) A E s _ Q (mS κd (mirror xs lo (lo + n) ((lo + n - lo) / 2)) p g)
  rw [ez]
  rotate_left
  have hn1 : n = 1 := by omega
  subst hn1
  have pz := p0
  obtain ⟨zs, ez⟩ : ∃ zs, xs = zs := ⟨_, rfl⟩
  have hz : Nk κ zs lo (1 + 1) := fun i j a1 a2 a3 => by
    rw [← ez]
    by_cases hi : i = j
    · rw [hi]; exact KeyOrd.kle_refl _
    · rw [show i = lo by omega, show j = lo + 1 by omega]
      exact KeyOrd.kle_of_klt hlt
  all_goals
    refine wpS_bind (wpS_lift (wpAny_rule ⟨rfl, ?_⟩))
    refine wpS_bind (wpS_mono (wpS_forRange (I := fun x c st' => ∃ ys neq, st' = mS κd ys p g ∧ c = (none, x, neq) ∧ Pm lo xs ys ∧ Nk κ ys lo x ∧ neq + 1 ≤ x ∧ ∀ i, lo + x - (neq + 1) ≤ i → i < lo + x → KK κ ys i = KK κ ys (lo + x - 1)) (Q := fun c st' => ∃ ys n neq, st' = mS κd ys p g ∧ c = (none, n, neq) ∧ Pm lo xs ys ∧ 1 ≤ n ∧ n ≤ nrem ∧ Nk κ ys lo n ∧ neq + 1 ≤ n ∧ ∀ i, lo + n - (neq + 1) ≤ i → i < lo + n → KK κ ys i = KK κ ys (lo + n - 1)) ?_ ?_ ⟨zs, 0, by try rw [← ez], rfl, by first | exact pz | exact ez ▸ pz, hz, by omega, fun i i1 i2 => by congr 1; omega⟩) ?_)
    · rintro x c _ x1 x2 ⟨ys, neq, rfl, rfl, hp, hk, q1, q2⟩
      have sz := hp.1.size_eq
      have u1 : lo ≤ lo + x - (neq + 1) := by omega
      have u2 : lo + x ≤ ys.size := by omega
      have step : ∀ {vs : Array Keyed}, (∀ k, KK κ vs k = KK κ ys k) → κ.kle (KK κ ys (lo + x)) (KK κ ys (lo + x - 1)) → Nk κ vs lo (x + 1) := fun hv hl i j a1 a2 a3 => by
        rw [hv, hv]
        by_cases hj : j < lo + x
        · exact hk i j a1 a2 hj
        · have hj' : j = lo + x := by omega
          subst hj'
          by_cases hi : i = lo + x
          · rw [hi]; exact KeyOrd.kle_refl _
          · exact KeyOrd.kle_trans hl (hk i (lo + x - 1) a1 (by omega) (by omega))
      refine wpS_bind (wp_ltAt hO (hG.perm hp.1) (show lo + x < ys.size by omega) (show lo + x - 1 < ys.size by omega) (iteS (fun e => iteS (fun _ => wpS_bind (wpS_reverse (wpS_pure ⟨_, 0, rfl, rfl, hp.mir u1 u2, step (KK_mirror_equal u2 q2) (KeyOrd.kle_of_klt e), by omega, fun i i1 i2 => by congr 1; omega⟩))) fun _ => wpS_pure ⟨ys, 0, rfl, rfl, hp, step (fun _ => rfl) (KeyOrd.kle_of_klt e), by omega, fun i i1 i2 => by congr 1; omega⟩) fun e => wpS_bind (wp_ltAt hO (hG.perm hp.1) (show lo + x - 1 < ys.size by omega) (show lo + x < ys.size by omega) (iteS (fun e2 => wpS_pure ⟨ys, x, neq, rfl, rfl, hp, by omega, by omega, hk, q1, q2⟩) fun e2 => ?_))))
      have e : κ.blt (KK κ ys (lo + x)) (KK κ ys (lo + x - 1)) = false := by simpa using e
      have e2 : κ.blt (KK κ ys (lo + x - 1)) (KK κ ys (lo + x)) = false := by simpa using e2
      have e3 : KK κ ys (lo + x) = KK κ ys (lo + x - 1) := KeyOrd.kle_antisymm e2 e
      refine wpS_pure ⟨ys, neq + 1, rfl, rfl, hp, step (fun _ => rfl) e2, by omega, fun i i1 i2 => ?_⟩
      rw [show lo + (x + 1) - 1 = lo + x by omega]
      by_cases hi : i = lo + x
      · rw [hi]
      · rw [e3]; exact q2 i (by omega) (by omega)
    · rintro c _ ⟨ys, neq, rfl, rfl, hp, hk, q1, q2⟩
      rw [Nat.max_eq_right (by omega)] at hk q1 q2 ⊢
      exact ⟨ys, nrem, neq, rfl, rfl, hp, h1, Nat.le_refl _, hk, q1, q2⟩
    rintro c _ ⟨ys, m, neq, rfl, rfl, hp, m1, m2, hk, q1, q2⟩
    have sz := hp.1.size_eq
    have tail : ∀ {vs : Array Keyed}, Pm lo xs vs → (∀ k, KK κ vs k = KK κ ys k) → Pm lo xs (mirror vs lo (lo + m) ((lo + m - lo) / 2)) ∧ Sk κ (mirror vs lo (lo + m) ((lo + m - lo) / 2)) lo m := fun hv ev => by
      have svs := hv.1.size_eq
      refine ⟨hv.mir (Nat.le_refl _) (by omega), fun i j a1 a2 a3 => ?_⟩
      rw [KK_mirror (by omega), KK_mirror (by omega), if_pos (by omega), if_pos (by omega), ev, ev]
      exact hk _ _ (by omega) (by omega) (by omega)
    refine iteS (fun _ => wpS_bind (wpS_reverse (wpS_bind (wpS_reverse ?_)))) fun _ => wpS_bind (wpS_reverse ?_)
    have t := tail (hp.mir (i := lo + m - (neq + 1)) (j := lo + m) (by omega) (by omega)) (KK_mirror_equal (by omega) q2)
    rotate_left
    have t := tail hp fun _ => rfl
    all_goals exact wpS_bind (wp_asc (lo := lo) m1 m2 (fun x n Q' a1 a2 hd hy => ask t.1 a1 a2 hd hy fun b => rfl) t.2 fun n n1 n2 hs _ => wpS_pure (h n _ t.1 (Nat.le_trans m1 n1) n2 hs))
end L2


set_option linter.all false
set_option maxRecDepth 100000
set_option maxHeartbeats 4000000
namespace L2
open PySem PyProof.Rows
variable {P : Program} {w : World} {A : Around} {s : Shared} {κ : KeyKind} {κd : SortKind} {E : Value → Shared → Prop}
theorem wp_binarySort {xs : Array Keyed} {p : Array (Nat × Nat × Nat)} {g lo n ok : Nat} {Q : Bool → SortSt → Prop} (hO : LtOk P w A s κ κd) (hG : Gk κ xs) (hn : lo + n ≤ xs.size) (h1 : 1 ≤ ok) (hok : ok ≤ n) (hs : Sk κ xs lo ok)
    (h : ∀ ys, Pm lo xs ys → Sk κ ys lo n → Q true (mS κd ys p g)) : wpS (model P w) A E s (binarySort' lo n ok) Q (mS κd xs p g) := by
  unfold binarySort'
  refine wpS_bind (wpS_mono (wpS_forRange (I := fun k c st' => ∃ ys, st' = mS κd ys p g ∧ c = (none, ()) ∧ Pm lo xs ys ∧ Sk κ ys lo k) (Q := fun c st' => ∃ ys, st' = mS κd ys p g ∧ c = (none, ()) ∧ Pm lo xs ys ∧ Sk κ ys lo n) ?_ ?_ ⟨xs, rfl, rfl, ⟨.refl _, fun _ _ => rfl⟩, by rw [Nat.max_eq_left h1]; exact hs⟩) ?_)
  · rintro k c _ k1 k2 ⟨ys, rfl, rfl, hp, hk⟩
    have sz := hp.1.size_eq
    have hk0 : lo + k < ys.size := by omega
    refine wpS_bind (wpS_mono (wpS_forRange (I := fun x c st'' => st'' = mS κd ys p g ∧ ∃ l r, c = (none, l, r) ∧ l ≤ r ∧ r ≤ k ∧ r - l ≤ k - x ∧ (∀ i, lo ≤ i → i < lo + l → κ.kle (KK κ ys i) (KK κ ys (lo + k))) ∧ ∀ i, lo + r ≤ i → i < lo + k → κ.klt (KK κ ys (lo + k)) (KK κ ys i)) (Q := fun c st'' => st'' = mS κd ys p g ∧ ∃ l r, c = (none, l, r) ∧ l ≤ k ∧ (∀ i, lo ≤ i → i < lo + l → κ.kle (KK κ ys i) (KK κ ys (lo + k))) ∧ ∀ i, lo + l ≤ i → i < lo + k → κ.klt (KK κ ys (lo + k)) (KK κ ys i)) ?_ ?_ ⟨rfl, 0, k, rfl, by omega, by omega, by omega, fun i a1 a2 => by omega, fun i a1 a2 => by omega⟩) ?_)
    · rintro x c _ _ hx ⟨rfl, l, r, rfl, a1, a2, a3, a4, a5⟩
      refine iteS (fun (c : l ≥ r) => ?_) fun (c : ¬ l ≥ r) => wpS_bind (wp_ltAt hO (hG.perm hp.1) hk0 (show lo + (l + r) / 2 < ys.size by omega) (iteS (fun e => ?_) fun e => ?_))
      · have : l = r := by omega
        subst this
        exact wpS_pure ⟨rfl, l, l, rfl, a2, a4, a5⟩
      · exact wpS_pure ⟨rfl, l, (l + r) / 2, rfl, by omega, by omega, by omega, a4, fun i b1 b2 => KeyOrd.klt_of_klt_of_kle e (hk _ i (by omega) b1 b2)⟩
      · have e : κ.blt (KK κ ys (lo + k)) (KK κ ys (lo + (l + r) / 2)) = false := by simpa using e
        exact wpS_pure ⟨rfl, (l + r) / 2 + 1, r, rfl, by omega, a2, by omega, fun i b1 b2 => KeyOrd.kle_trans (hk i _ b1 (by omega) (by omega)) e, a5⟩
    · rintro c _ ⟨rfl, l, r, rfl, a1, a2, a3, a4, a5⟩
      have : l = r := by omega
      subst this
      exact ⟨rfl, l, l, rfl, a2, a4, a5⟩
    rintro c _ ⟨rfl, l, r, rfl, a2, a4, a5⟩
    have e : lo + k - (lo + k - (lo + l)) = lo + l := by omega
    have hd : lo + k - (lo + l) ≤ lo + k := by omega
    refine wpS_bind (wpS_modify (wpS_pure ⟨bubble ys (lo + k) (lo + k - (lo + l)), rfl, rfl, ⟨(bubble_perm ..).trans hp.1, fun i hi => ?_⟩, fun i j hi hij hj => ?_⟩))
    · rw [getElem?_bubble hk0 _ hd, e, if_neg (by omega), if_neg (by omega)]
      exact hp.2 i hi
    · rw [KK_bubble hk0 hd, KK_bubble hk0 hd, e]
      repeat' split
      all_goals first
        | (exfalso; omega)
        | exact KeyOrd.kle_refl _
        | exact a4 _ (by omega) (by omega)
        | exact KeyOrd.kle_of_klt (a5 _ (by omega) (by omega))
        | exact hk _ _ (by omega) (by omega) (by omega)
  · rintro c _ ⟨ys, rfl, rfl, hp, hk⟩
    rw [show max (max ok 1) n = n by omega] at hk
    exact ⟨ys, rfl, rfl, hp, hk⟩
  · rintro c _ ⟨ys, rfl, rfl, hp, hk⟩
    exact wpS_pure (h ys hp hk)

def offs : Nat → List (List Keyed) → List (Nat × Nat)
  | _, [] => []
  | o, l :: r => (o, l.length) :: offs (o + l.length) r
theorem offs_app : ∀ (a b : List (List Keyed)) (o : Nat), offs o (a ++ b) = offs o a ++ offs (o + a.flatten.length) b
  | [], b, o => rfl
  | l :: a, b, o => by
    show (o, l.length) :: offs (o + l.length) (a ++ b) = _
    rw [offs_app a b, List.flatten_cons, List.length_append, Nat.add_assoc]
    rfl
theorem offs_len : ∀ (a : List (List Keyed)) (o : Nat), (offs o a).length = a.length
  | [], _ => rfl
  | l :: a, o => congrArg (· + 1) (offs_len a _)
abbrev ofE (e : Nat × Nat × Nat) : Nat × Nat := (e.1, e.2.1)
def TRI (κ : KeyKind) (xs : Array Keyed) (p : Array (Nat × Nat × Nat)) (lo : Nat) : Prop := ∃ segs rest, xs.toList = segs.flatten ++ rest ∧ p.toList.map ofE = offs 0 segs ∧ (∀ g ∈ segs, g ≠ [] ∧ g.Pairwise fun a b => kL κ a b = true) ∧ lo = segs.flatten.length
theorem at_mid {xs : Array Keyed} {a b c : List Keyed} (h : xs.toList = a ++ b ++ c) {i : Nat} (hi : i < b.length) : at0 xs (a.length + i) = b[i] := by
  unfold at0
  rw [← Array.getElem?_toList, h, List.append_assoc, List.getElem?_append_right (by omega), Nat.add_sub_cancel_left, List.getElem?_append_left hi, List.getElem?_eq_getElem hi]
  rfl
theorem sg_mid {xs : Array Keyed} {a b c : List Keyed} (h : xs.toList = a ++ b ++ c) (hp : b.Pairwise fun a b => kL κ a b = true) : Sg κ xs a.length b.length := fun i j hij hj => by
  rw [at_mid h (Nat.lt_of_le_of_lt hij hj), at_mid h hj]
  by_cases e : i = j
  · subst e
    exact kL_true (κ.irrefl _)
  · exact (List.pairwise_iff_getElem.mp hp) i j _ hj (by omega)
theorem cut_tri {xs : Array Keyed} {a b c : List Keyed} (h : xs.toList = a ++ b ++ c) : (xs.extract a.length (a.length + b.length)).toList = b := by
  rw [Array.toList_extract, List.extract_eq_take_drop, h, List.append_assoc, List.drop_left, Nat.add_sub_cancel_left, List.take_left]
theorem kL_tot (x y : Keyed) : (kL κ x y || kL κ y x) = true := by
  cases e : kL κ x y with
  | true => rfl
  | false =>
    have e : κ.blt (kx κ y) (kx κ x) = true := by unfold kL at e; simpa using e
    exact kL_true (KeyOrd.klt_asymm e)
theorem TRI.merge {xs : Array Keyed} {p : Array (Nat × Nat × Nat)} {g i lo : Nat} {Q : Bool → SortSt → Prop} (hO : LtOk P w A s κ κd) (hG : Gk κ xs) (hR : TRI κ xs p lo) (hi : i + 1 < p.size)
    (h : ∀ xs' p' g', TRI κ xs' p' lo → xs'.Perm xs → p'.size + 1 = p.size → xs'.toList.drop lo = xs.toList.drop lo → Q true (mS κd xs' p' g')) : wpS (model P w) A E s (PyProof.Rows.mergeAt' i) Q (mS κd xs p g) := by
  obtain ⟨segs, rest, e1, e2, e3, e4⟩ := hR
  have hl : segs.length = p.size := by
    have := congrArg List.length e2
    rw [List.length_map, Array.length_toList, offs_len] at this
    exact this.symm
  obtain ⟨s1, a, b, s2, rfl, hs1⟩ : ∃ s1 a b s2, segs = s1 ++ a :: b :: s2 ∧ s1.length = i := ⟨segs.take i, segs[i], segs[i + 1], segs.drop (i + 2), by
    rw [← List.drop_eq_getElem_cons (by omega), ← List.drop_eq_getElem_cons (by omega), List.take_append_drop], by rw [List.length_take]; omega⟩
  obtain ⟨p1, u, v, p2, ep, hp1⟩ : ∃ p1 u v p2, p.toList = p1 ++ u :: v :: p2 ∧ p1.length = i := ⟨p.toList.take i, p.toList[i]'(by rw [Array.length_toList]; omega), p.toList[i + 1]'(by rw [Array.length_toList]; omega), p.toList.drop (i + 2), by
    rw [← List.drop_eq_getElem_cons, ← List.drop_eq_getElem_cons, List.take_append_drop], by rw [List.length_take, Array.length_toList]; omega⟩
  rw [ep, List.map_append, offs_app] at e2
  obtain ⟨f1, f2⟩ := List.append_inj e2 (by rw [List.length_map, offs_len, hp1, hs1])
  obtain ⟨f3, f4⟩ := List.cons.inj f2
  obtain ⟨f5, f6⟩ := List.cons.inj f4
  obtain ⟨sa, na, pw⟩ := u
  obtain ⟨sb, nb, pw'⟩ := v
  obtain ⟨rfl, rfl⟩ := Prod.mk.inj f3
  obtain ⟨rfl, rfl⟩ := Prod.mk.inj f5
  simp only [Nat.zero_add] at *
  have ha := e3 a (by simp)
  have hb := e3 b (by simp)
  have xe : xs.toList = s1.flatten ++ a ++ (b ++ (s2.flatten ++ rest)) := by rw [e1]; simp
  have xe2 : xs.toList = (s1.flatten ++ a) ++ b ++ (s2.flatten ++ rest) := by rw [e1]; simp
  have g1 : p[i]? = some (s1.flatten.length, a.length, pw) := by rw [← Array.getElem?_toList, ep, List.getElem?_append_right (by omega), hp1, Nat.sub_self]; rfl
  have g2 : p[i + 1]? = some (s1.flatten.length + a.length, b.length, pw') := by rw [← Array.getElem?_toList, ep, List.getElem?_append_right (by omega), hp1, Nat.add_sub_cancel_left]; rfl
  have sz : s1.flatten.length + a.length + b.length ≤ xs.size := by
    have := congrArg List.length xe2
    simp only [List.length_append, Array.length_toList] at this
    omega
  have sb := sg_mid (κ := κ) xe2 hb.2
  have cb := cut_tri xe2
  rw [List.length_append] at sb cb
  refine wp_mergeAt hO hG g1 g2 rfl (List.length_pos_iff.mpr ha.1) (List.length_pos_iff.mpr hb.1) sz (sg_mid xe ha.2) sb fun xs' g' ex => ?_
  have c1 : xs.toList.take s1.flatten.length = s1.flatten := by rw [xe, List.append_assoc, List.take_left]
  have c2 : xs.toList.drop (s1.flatten.length + a.length + b.length) = s2.flatten ++ rest := by rw [xe2, ← List.length_append, ← List.length_append, List.drop_left]
  rw [cut_tri xe, cb, c1, c2] at ex
  have pe := List.merge_perm_append (kL κ) (xs := a) (ys := b)
  have pl := pe.length_eq
  rw [List.length_append] at pl
  refine h _ _ _ ⟨s1 ++ List.merge a b (kL κ) :: s2, rest, by rw [ex]; simp, ?_, ?_, ?_⟩ ?_ ?_ ?_
  · rw [Array.toList_eraseIdxIfInBounds, Array.toList_setIfInBounds, ep, ← hp1, List.set_append_right _ _ (Nat.le_refl _), Nat.sub_self, List.set_cons_zero, List.eraseIdx_append_of_length_le (by omega), Nat.add_sub_cancel_left, List.map_append, offs_app, f1]
    show _ ++ ofE _ :: List.map ofE p2 = _ ++ (_, _) :: offs _ s2
    rw [f6, pl, Nat.zero_add, Nat.add_assoc]
  · intro x hx
    rcases List.mem_append.mp hx with z | z
    · exact e3 x (List.mem_append_left _ z)
    · rcases List.mem_cons.mp z with rfl | z
      · exact ⟨fun z => by rw [z] at pl; exact ha.1 (List.eq_nil_of_length_eq_zero (by simp at pl; omega)), List.pairwise_merge (le := kL κ) (fun _ _ _ => kL_tr) kL_tot _ _ ha.2 hb.2⟩
      · exact e3 x (List.mem_append_right _ (.tail _ (.tail _ z)))
  · rw [e4]
    simp only [List.flatten_append, List.flatten_cons, List.length_append, pl]
    omega
  · have := (pe.append_right (s2.flatten ++ rest)).append_left s1.flatten
    rw [Array.perm_iff_toList_perm, ex, xe2]
    simpa only [List.append_assoc] using this
  · rw [← Array.length_toList, Array.toList_eraseIdxIfInBounds, Array.toList_setIfInBounds, List.length_eraseIdx, List.length_set, Array.length_toList, if_pos hi]
    omega
  · have e5 : lo = (s1.flatten ++ List.merge a b (kL κ) ++ s2.flatten).length := by
      rw [e4]
      simp only [List.flatten_append, List.flatten_cons, List.length_append, pl]
      omega
    have e6 : xs.toList.drop lo = rest := by rw [e1, e4, List.drop_left]
    rw [e6, ex, ← List.append_assoc, e5, List.drop_left]
theorem Pm.take {lo : Nat} {xs us : Array Keyed} (hp : Pm lo xs us) : us.toList.take lo = xs.toList.take lo := by
  refine List.ext_getElem? fun k => ?_
  rw [List.getElem?_take, List.getElem?_take]
  split
  · rw [Array.getElem?_toList, Array.getElem?_toList]
    exact hp.2 k ‹_›
  · rfl
theorem TRI.push {xs ys : Array Keyed} {p : Array (Nat × Nat × Nat)} {lo n : Nat} (hR : TRI κ xs p lo) (hp : Pm lo xs ys) (hs : Sk κ ys lo n) (h1 : 1 ≤ n) (h2 : lo + n ≤ ys.size) {r : Nat} : TRI κ ys (p.push (lo, n, r)) (lo + n) := by
  obtain ⟨segs, rest, e1, e2, e3, e4⟩ := hR
  have ln : (ys.extract lo (lo + n)).toList.length = n := by rw [Array.length_toList, Array.size_extract]; omega
  refine ⟨segs ++ [(ys.extract lo (lo + n)).toList], ys.toList.drop (lo + n), ?_, ?_, fun x hx => ?_, ?_⟩
  · have : ys.toList.take lo = segs.flatten := by rw [hp.take, e1, e4, List.take_left]
    rw [List.flatten_append, ← this, List.flatten_singleton]
    exact whole (by omega) h2
  · rw [Array.toList_push, List.map_append, e2, offs_app, Nat.zero_add, ← e4]
    show _ ++ [_] = _ ++ [_]
    rw [ln]
  · rcases List.mem_append.mp hx with z | z
    · exact e3 x z
    · rw [List.mem_singleton.mp z]
      refine ⟨fun z => by rw [z] at ln; exact absurd ln (by simp; omega), List.pairwise_iff_getElem.mpr fun i j hi hj hij => ?_⟩
      rw [ln] at hi hj
      have q : ∀ k (hk : k < n) (hk' : k < (ys.extract lo (lo + n)).toList.length), (ys.extract lo (lo + n)).toList[k] = at0 ys (lo + k) := fun k hk hk' => by
        rw [at_toList, at_cut h2 (by omega)]
      rw [q i hi, q j hj]
      have := hs (lo + i) (lo + j) (by omega) (by omega) (by omega)
      rw [KK_at (by omega), KK_at (by omega)] at this
      exact kL_true this
  · rw [List.flatten_append, List.length_append, ← e4, List.flatten_singleton, ln]
theorem TRI.pw {xs : Array Keyed} {p : Array (Nat × Nat × Nat)} {lo k : Nat} {f : Nat × Nat × Nat → Nat × Nat × Nat} (hR : TRI κ xs p lo) (hf : ∀ e, ofE (f e) = ofE e) : TRI κ xs (p.modify k f) lo := by
  obtain ⟨segs, rest, e1, e2, e3, e4⟩ := hR
  refine ⟨segs, rest, e1, ?_, e3, e4⟩
  rw [← e2, Array.toList_modify]
  refine List.ext_getElem? fun j => ?_
  rw [List.getElem?_map, List.getElem?_map, List.getElem?_modify]
  cases p.toList[j]? with
  | none => rfl
  | some x =>
    show some (ofE (if k = j then f x else x)) = some (ofE x)
    split
    · rw [hf]
    · rfl
theorem TRI.size {xs : Array Keyed} {p : Array (Nat × Nat × Nat)} {lo : Nat} (hR : TRI κ xs p lo) : p.size ≤ lo ∧ lo ≤ xs.size := by
  obtain ⟨segs, rest, e1, e2, e3, e4⟩ := hR
  have hl := congrArg List.length e2
  rw [List.length_map, Array.length_toList, offs_len] at hl
  have h2 := congrArg List.length e1
  rw [Array.length_toList, List.length_append] at h2
  refine ⟨?_, by omega⟩
  rw [hl, e4]
  clear hl h2 e4 e1 e2
  induction segs with
  | nil => exact Nat.le_refl _
  | cons l r ih =>
    have := ih fun g hg => e3 g (.tail _ hg)
    have h0 := List.length_pos_iff.mpr (e3 l (.head _)).1
    rw [List.flatten_cons, List.length_append, List.length_cons]
    omega
theorem TRI.fin {xs : Array Keyed} {p : Array (Nat × Nat × Nat)} (hR : TRI κ xs p xs.size) (h1 : p.size ≤ 1) : xs.toList.Pairwise fun a b => kL κ a b = true := by
  obtain ⟨segs, rest, e1, e2, e3, e4⟩ := hR
  have hl := congrArg List.length e2
  rw [List.length_map, Array.length_toList, offs_len] at hl
  have h2 := congrArg List.length e1
  rw [Array.length_toList, List.length_append] at h2
  have hr : rest = [] := List.eq_nil_of_length_eq_zero (by omega)
  rw [e1, hr, List.append_nil]
  match segs, e3, hl with
  | [], _, _ => exact .nil
  | [g], e3, _ =>
    rw [List.flatten_singleton]
    exact (e3 g (.head _)).2
  | _ :: _ :: _, _, hl => simp at hl; omega
theorem TRI.same {xs us : Array Keyed} {p : Array (Nat × Nat × Nat)} {lo : Nat} (hR : TRI κ xs p lo) (hp : Pm lo xs us) : TRI κ us p lo := by
  obtain ⟨segs, rest, e1, e2, e3, e4⟩ := hR
  refine ⟨segs, us.toList.drop lo, ?_, e2, e3, e4⟩
  have t : xs.toList.take lo = segs.flatten := by rw [e1, e4, List.take_left]
  rw [← t, ← hp.take, List.take_append_drop]
theorem Sk.drop {xs us : Array Keyed} {lo n : Nat} (h : Sk κ xs lo n) (e : us.toList.drop lo = xs.toList.drop lo) : Sk κ us lo n := fun i j a1 a2 a3 => by
  have q : ∀ k, lo ≤ k → KK κ us k = KK κ xs k := fun k hk => KK_congr (by
    have := congrArg (·[k - lo]?) e
    simp only [List.getElem?_drop, show lo + (k - lo) = k by omega, Array.getElem?_toList] at this
    exact this)
  rw [q i a1, q j (by omega)]
  exact h i j a1 a2 a3
theorem ite_lt1 {c : Prop} [Decidable c] {a b n : Nat} (h1 : a + 1 < n) (h2 : b + 1 < n) : (if c then a else b) + 1 < n := by
  split
  · exact h1
  · exact h2
theorem wp_sortRuns {xs : Array Keyed} {Q : Unit → SortSt → Prop} (hO : LtOk P w A s κ κd) (hG : Gk κ xs) (h : ∀ ys p g, ys.Perm xs → (ys.toList.Pairwise fun a b => kL κ a b = true) → Q () (mS κd ys p g)) : wpS (model P w) A E s sortRuns' Q (mS κd xs #[] 7) := by
  unfold sortRuns'
  refine wpS_bind (wpS_get (wpS_bind (wpS_mono (wpS_forRange (I := fun x c st' => ∃ ys p g lo, c = (none, lo) ∧ st' = mS κd ys p g ∧ ys.Perm xs ∧ TRI κ ys p lo ∧ x ≤ lo) (Q := fun c st' => ∃ ys p g, c = (none, xs.size) ∧ st' = mS κd ys p g ∧ ys.Perm xs ∧ TRI κ ys p xs.size) ?_ ?_ ⟨xs, #[], 7, 0, rfl, rfl, .refl _, ⟨[], xs.toList, rfl, rfl, (fun _ z => nomatch z), rfl⟩, Nat.le_refl _⟩) ?_)))
  · rintro x c _ _ hx ⟨ys, p, g, lo, rfl, rfl, hp, hR, hxl⟩
    have sz := hp.size_eq
    refine iteS (fun (c : lo ≥ xs.size) => ?_) fun (c : ¬ lo ≥ xs.size) => ?_
    · have : lo = xs.size := Nat.le_antisymm (sz ▸ hR.size.2) c
      subst this
      exact wpS_pure ⟨ys, p, g, rfl, rfl, hp, hR⟩
    refine wpS_bind (wp_countRun hO (hG.perm hp) (show lo + (xs.size - lo) = ys.size by omega) (by show 1 ≤ xs.size - lo; omega) fun m zs hz m1 m2 hm => ?_)
    have m2 : m ≤ xs.size - lo := m2
    refine iteS (fun _ => wpS_bind (wpS_lift (wpAny_rule ⟨rfl, wpS_bind (wp_binarySort hO (hG.perm (hz.1.trans hp)) (show lo + min (xs.size - lo) (minRun' xs.size xs.size 0) ≤ zs.size by have := hz.1.size_eq; omega) m1 (Nat.le_min.mpr ⟨m2, Nat.le_of_lt ?_⟩) hm fun us hu hm => ?_)⟩))) fun _ => ?_
    · assumption
    have hz2 : Pm lo ys us := ⟨hu.1.trans hz.1, fun i hi => (hu.2 i hi).trans (hz.2 i hi)⟩
    have n1 : 1 ≤ min (xs.size - lo) (minRun' xs.size xs.size 0) := Nat.le_min.mpr ⟨by omega, by rename_i z; exact Nat.le_trans m1 (Nat.le_of_lt z)⟩
    have n2 : min (xs.size - lo) (minRun' xs.size xs.size 0) ≤ xs.size - lo := Nat.min_le_left _ _
    have n3 : lo + min (xs.size - lo) (minRun' xs.size xs.size 0) ≤ xs.size := by omega
    have n4 : x + 1 ≤ lo + min (xs.size - lo) (minRun' xs.size xs.size 0) := by omega
    rotate_left
    have hz2 := hz
    have n1 := m1
    have n3 : lo + m ≤ xs.size := by omega
    have n4 : x + 1 ≤ lo + m := by omega
    all_goals
      have sz2 := hz2.1.size_eq
      refine wpS_bind (wpS_get ?_)
      show wpS _ _ _ _ (match p.back? with | some (s1, n1, snd) => _ | x => _) _ _
      cases p.back? with
      | none => exact wpS_bind (wpS_modify (wpS_pure ⟨_, _, _, _, rfl, rfl, hz2.1.trans hp, hR.push hz2 hm n1 (Nat.le_trans n3 (Nat.le_of_eq (hz2.1.trans hp).size_eq.symm)), n4⟩))
      | some e =>
        obtain ⟨s1, l1, r1⟩ := e
        refine wpS_bind (wpS_mono (wpS_forRange (I := fun x c st' => ∃ us q g', c = (none, ()) ∧ st' = mS κd us q g' ∧ us.Perm xs ∧ TRI κ us q lo ∧ Sk κ us lo _) (Q := fun c st' => ∃ us q g', c = (none, ()) ∧ st' = mS κd us q g' ∧ us.Perm xs ∧ TRI κ us q lo ∧ Sk κ us lo _) ?_ (fun c st hh => hh) ⟨_, p, g, rfl, rfl, hz2.1.trans hp, hR.same hz2, hm⟩) ?_)
        · rintro x c _ _ hx ⟨us, q, g', rfl, rfl, hu, hRu, hsu⟩
          refine wpS_bind (wpS_get ?_)
          show wpS _ _ _ _ (match (if q.size > 1 then q[q.size - 2]? else none) with | some (_, _, older) => _ | x => _) _ _
          by_cases hq : q.size > 1
          · rw [if_pos hq, getElem?_pos q (q.size - 2) (by omega)]
            exact iteS (fun _ => wpS_pure ⟨us, q, g', rfl, rfl, hu, hRu, hsu⟩) fun _ => wpS_bind (hRu.merge hO (hG.perm hu) (show q.size - 2 + 1 < q.size by omega) fun vs q' g2 hR2 hp2 _ hd => wpS_pure ⟨vs, q', g2, rfl, rfl, hp2.trans hu, hR2, hsu.drop hd⟩)
          · rw [if_neg hq]
            exact wpS_pure ⟨us, q, g', rfl, rfl, hu, hRu, hsu⟩
        rintro c _ ⟨us, q, g', rfl, rfl, hu, hRu, hsu⟩
        refine wpS_bind (wpS_modify (wpS_bind (wpS_modify (wpS_pure ⟨_, _, _, _, rfl, rfl, hu, TRI.push (?_ : TRI κ us _ lo) ⟨.refl _, fun _ _ => rfl⟩ hsu n1 (Nat.le_trans n3 (Nat.le_of_eq hu.size_eq.symm)), n4⟩))))
        exact hRu.pw fun _ => rfl
  · rintro c _ ⟨ys, p, g, lo, rfl, rfl, hp, hR, hxl⟩
    have sz := hp.size_eq
    have := hR.size.2
    have hxl : max 0 xs.size ≤ lo := hxl
    have : lo = xs.size := by omega
    subst this
    exact ⟨ys, p, g, rfl, rfl, hp, hR⟩
  rintro c _ ⟨ys, p, g, rfl, rfl, hp, hR⟩
  have sz := hp.size_eq
  refine wpS_bind (wpS_mono (wpS_forRange (I := fun x c st' => ∃ ys p g, c = (none, ()) ∧ st' = mS κd ys p g ∧ ys.Perm xs ∧ TRI κ ys p xs.size ∧ p.size + x ≤ xs.size + 1) (Q := fun c st' => ∃ ys p g, c = (none, ()) ∧ st' = mS κd ys p g ∧ ys.Perm xs ∧ (ys.toList.Pairwise fun a b => kL κ a b = true)) ?_ ?_ ⟨ys, p, g, rfl, rfl, hp, hR, by have := hR.size.1; omega⟩) ?_)
  · rintro x c _ _ hx ⟨ys, p, g, rfl, rfl, hp, hR, hxp⟩
    have sz := hp.size_eq
    refine wpS_bind (wpS_get (iteS (fun (c : p.size ≤ 1) => wpS_pure ⟨ys, p, g, rfl, rfl, hp, TRI.fin (sz ▸ hR) c⟩) fun (c : ¬ p.size ≤ 1) => wpS_bind (hR.merge hO (hG.perm hp) ?_ fun us q g' hR' hp' hq _ => wpS_pure ⟨us, q, g', rfl, rfl, hp'.trans hp, hR', by omega⟩)))
    exact ite_lt1 (show p.size - 2 - 1 + 1 < p.size by omega) (show p.size - 2 + 1 < p.size by omega)
  · rintro c _ ⟨ys, p, g, rfl, rfl, hp, hR, hxp⟩
    have sz := hp.size_eq
    have hxp : p.size + max 0 xs.size ≤ xs.size + 1 := hxp
    exact ⟨ys, p, g, rfl, rfl, hp, TRI.fin (sz ▸ hR) (by omega)⟩
  rintro c _ ⟨ys, p, g, rfl, rfl, hp, hs⟩
  exact wpS_pure (h ys p g hp hs)
end L2


set_option linter.all false
set_option maxRecDepth 100000
set_option maxHeartbeats 4000000
namespace L2
open PySem PySem.Spec PyProof.Rows PySem.W
theorem lx_irr : ∀ a : List Int, HT.lexLt a a = false
  | [] => rfl
  | x :: a => by rw [HT.lexLt_cons, if_pos rfl]; exact lx_irr a
theorem lx_neg : ∀ a b c : List Int, HT.lexLt a c = true → HT.lexLt a b = true ∨ HT.lexLt b c = true
  | [], [], c, h => .inr h
  | [], y :: b, c, h => .inl rfl
  | x :: a, b, [], h => by cases h
  | x :: a, [], z :: c, h => .inr rfl
  | x :: a, y :: b, z :: c, h => by
    rw [HT.lexLt_cons] at h ⊢
    rw [HT.lexLt_cons]
    by_cases e : x = y
    · subst e
      by_cases e2 : x = z
      · subst e2
        rw [if_pos rfl] at h ⊢
        rw [if_pos rfl]
        exact lx_neg a b c h
      · rw [if_neg e2] at h ⊢
        exact .inr h
    · by_cases e2 : y = z
      · subst e2
        rw [if_neg e] at h ⊢
        exact .inl h
      · rw [if_neg e, if_neg e2]
        by_cases e3 : x = z
        · rcases Int.lt_or_gt_of_ne e with k | k
          · exact .inl (decide_eq_true k)
          · exact .inr (decide_eq_true (e3 ▸ k))
        · rw [if_neg e3] at h
          have h := of_decide_eq_true h
          rcases Int.lt_or_gt_of_ne e with k | k
          · exact .inl (decide_eq_true k)
          · exact .inr (decide_eq_true (Int.lt_trans k h))
theorem lx_tot : ∀ a b : List Int, HT.lexLt a b = false → HT.lexLt b a = false → a = b
  | [], [], _, _ => rfl
  | [], y :: b, h, _ => by cases h
  | x :: a, [], _, h => by cases h
  | x :: a, y :: b, h1, h2 => by
    rw [HT.lexLt_cons] at h1 h2
    by_cases e : x = y
    · subst e
      rw [if_pos rfl] at h1 h2
      rw [lx_tot a b h1 h2]
    · rw [if_neg e] at h1
      rw [if_neg (Ne.symm e)] at h2
      have := of_decide_eq_false h1
      have := of_decide_eq_false h2
      lia
theorem lx_asy {a b : List Int} (h : HT.lexLt a b = true) : HT.lexLt b a = false := by
  cases e : HT.lexLt b a with
  | false => rfl
  | true =>
    exfalso
    induction a generalizing b with
    | nil => cases b with
      | nil => cases h
      | cons y b => cases e
    | cons x a ih => cases b with
      | nil => cases h
      | cons y b =>
        rw [HT.lexLt_cons] at h e
        by_cases q : x = y
        · subst q
          rw [if_pos rfl] at h e
          exact ih h e
        · rw [if_neg q] at h
          rw [if_neg (Ne.symm q)] at e
          have := of_decide_eq_true h
          have := of_decide_eq_true e
          lia
theorem lx_tr {a b c : List Int} (h1 : HT.lexLt a b = true) (h2 : HT.lexLt b c = true) : HT.lexLt a c = true := by
  rcases lx_neg a c b h1 with h | h
  · exact h
  · rw [lx_asy h2] at h
    cases h
def lexO : KeyOrd where
  α := List Int
  blt := HT.lexLt
  irrefl := lx_irr
  trans _ _ _ := lx_tr
  negTrans := lx_neg
  total := lx_tot
def kF (F : Addr → Option (List Int)) : KeyKind where
  toKeyOrd := lexO
  keyOf v := match v with
    | .ref b => F b
    | _ => none
  dflt := ([] : List Int)
def lxLe (a b : List Int) : Bool := !HT.lexLt b a
def srt (rows : List (List Int)) : List (List Int) := rows.mergeSort lxLe
theorem lxLe_tr (a b c : List Int) (h1 : lxLe a b = true) (h2 : lxLe b c = true) : lxLe a c = true := by
  unfold lxLe at *
  rw [Bool.not_eq_true'] at *
  exact KeyOrd.kle_trans (O := lexO) h1 h2
theorem lxLe_tot (a b : List Int) : (lxLe a b || lxLe b a) = true := by
  unfold lxLe
  cases e : HT.lexLt b a with
  | false => rfl
  | true => rw [lx_asy e]; rfl
theorem lxLe_anti {a b : List Int} (h1 : lxLe a b = true) (h2 : lxLe b a = true) : a = b := by
  unfold lxLe at *
  rw [Bool.not_eq_true'] at *
  exact lx_tot a b h2 h1
theorem srt_uniq {x y : List (List Int)} (h : x.Pairwise fun a b => lxLe a b = true) (hp : x.Perm y) : x = srt y :=
  List.Perm.eq_of_pairwise (fun _ _ _ _ => lxLe_anti) h (List.pairwise_mergeSort lxLe_tr lxLe_tot _) (hp.trans (List.mergeSort_perm _ _).symm)

abbrev rwO (r : List Int) : Option HO := some (.lst (r.map V.int))
def RwA (H : Hp) (ts : List Addr) (rows : List (List Int)) : Prop := ts.map H = rows.map rwO
def FH (H : Hp) (ts : List Addr) (b : Addr) : Option (List Int) := if b ∈ ts then match H b with
  | some (.lst vs) => some (vs.map fun v => match v with | .int n => n | _ => 0)
  | _ => none else none
theorem int_back (r : List Int) : ((r.map V.int).map fun v => match v with | .int n => n | _ => 0) = r := by
  rw [List.map_map]
  exact (List.map_congr_left fun _ _ => rfl).trans (List.map_id _)
theorem RwA.row {H : Hp} {ts : List Addr} {rows : List (List Int)} (h : RwA H ts rows) {t : Addr} (ht : t ∈ ts) : ∃ r, r ∈ rows ∧ H t = rwO r := by
  have : H t ∈ ts.map H := List.mem_map.mpr ⟨t, ht, rfl⟩
  rw [show ts.map H = _ from h] at this
  obtain ⟨r, h1, h2⟩ := List.mem_map.mp this
  exact ⟨r, h1, h2.symm⟩
theorem RwA.len {H : Hp} {ts : List Addr} {rows : List (List Int)} (h : RwA H ts rows) : ts.length = rows.length := by
  have := congrArg List.length (show ts.map H = _ from h)
  rwa [List.length_map, List.length_map] at this
theorem RwA.fh {H : Hp} {ts : List Addr} {rows : List (List Int)} (h : RwA H ts rows) {t : Addr} {r : List Int} (ht : t ∈ ts) (e : H t = rwO r) : FH H ts t = some r := by
  unfold FH
  rw [if_pos ht, e]
  exact congrArg some (int_back r)

theorem RwA.sorted {H : Hp} {ts ts' : List Addr} {rows : List (List Int)} (h : RwA H ts rows) (hp : ts'.Perm ts) (hs : ts'.Pairwise fun a b => ∀ x y, FH H ts a = some x → FH H ts b = some y → lxLe x y = true) : RwA H ts' (srt rows) := by
  have hr : ∀ us : List Addr, (∀ u ∈ us, u ∈ ts) → us.map H = (us.map fun t => (FH H ts t).getD []).map rwO := fun us hu => by
    rw [List.map_map]
    refine List.map_congr_left fun t ht => ?_
    obtain ⟨r, _, e⟩ := h.row (hu t ht)
    show H t = rwO ((FH H ts t).getD [])
    rw [h.fh (hu t ht) e]
    exact e
  have inj : ∀ x y : List (List Int), x.map rwO = y.map rwO → x = y := fun x y e => by
    refine List.map_inj_right (fun a b hab => ?_) |>.mp e
    have : a.map V.int = b.map V.int := HO.lst.inj (Option.some.inj hab)
    rw [← int_back a, this, int_back]
  have er : rows = ts.map fun t => (FH H ts t).getD [] := inj _ _ ((show ts.map H = _ from h).symm.trans (hr ts fun _ z => z))
  show ts'.map H = (srt rows).map rwO
  rw [hr ts' fun u z => hp.mem_iff.mp z]
  congr 1
  refine srt_uniq ?_ (by rw [er]; exact hp.map _)
  rw [List.pairwise_map]
  refine hs.imp_of_mem fun {a b} ha hb hab => ?_
  obtain ⟨x, _, ex⟩ := h.row (hp.mem_iff.mp ha)
  obtain ⟨y, _, ey⟩ := h.row (hp.mem_iff.mp hb)
  rw [h.fh (hp.mem_iff.mp ha) ex, h.fh (hp.mem_iff.mp hb) ey]
  exact hab x y (h.fh (hp.mem_iff.mp ha) ex) (h.fh (hp.mem_iff.mp hb) ey)

def LsF (h : Heap) (a : Addr) (F : Addr → Option (List Int)) : Prop := ∀ b ns, F b = some ns → b ≠ a ∧ ∃ its : Array Value, PlainL h b its ∧ IntsAre its.toList ns
section
variable {P : Program} {w : World} {A : Around} {E : Value → Shared → Prop} {s : Shared}
theorem one_ltF {l b : Addr} {items items2 : Array Value} {ns ms : List Int} {Q : Bool → Shared → Prop} (hl : PlainL s.heap l items) (hb : PlainL s.heap b items2) (hi : IntsAre items.toList ns) (hj : IntsAre items2.toList ms)
    (hu : A.units < cLine) (h : Q (HT.lexLt ns ms) s) : wpAny (model P w) A (keyLt' oneType' (.ref l) (.ref b)) Q E s := by
  obtain ⟨⟨cls, dd, data, sl⟩, n, ho, hc, _, hd⟩ := id hl
  obtain ⟨⟨cls2, dd2, data2, sl2⟩, n2, ho2, hc2, _, hd2⟩ := id hb
  simp only at hc hd hc2 hd2
  subst hc hd hc2 hd2
  rw [keyLt'_oneType, oneLt'_eq]
  simp only [if_true]
  refine wpAny_bind (wpAny_cRoomFor hu ?_)
  refine wpAny_bind (wpAny_callSpecialIfBound?_slot ⟨_, ho, rfl⟩ PySem.F.slot_list_lt (call_meets PySem.F.slot_list_lt ⟨_, ho, rfl⟩ PySem.F.entry_list_lt (PySem.F.args_list_lt_2 _ _) (HT.list_lt_ints l b items items2 n n2 dd dd2 sl sl2 ns ms hi hj) ⟨ho, ho2, ?_⟩))
  exact wpAny_truthy_bool h
theorem list_sortF {F : Addr → Option (List Int)} {a : Addr} {vs : List Value} {n : Nat} {Q : Fin → Shared → Prop} (ho : s.heap.get? a = some (seqObj "list" vs.toArray n)) (hF : LsF s.heap a F) (hL : ∀ v ∈ vs, ∃ b ns, v = .ref b ∧ F b = some ns) (hu : A.units < cLine) (hz : vs.length ≤ sizeLine)
    (h : ∀ out : Array Value, out.toList.Perm vs → (out.toList.Pairwise fun x y => ∀ b c ns ms, x = .ref b → y = .ref c → F b = some ns → F c = some ms → lxLe ns ms = true) → Q (.done (.ret .none)) { s with heap := sortedHeap s.heap a vs out }) : wpAny (model P w) A (Builtin.«list.sort» ⟨[.ref a], []⟩) Q E s := by
  have ha : a < s.heap.objs.size := Heap.lt_size ho
  rw [list_sort_plain]
  refine wpAny_bind (listItems_at ho rfl (wpAny_bind (listUpdate_at ho rfl ?_)))
  obtain ⟨e1, ho1⟩ : ∃ e1, (s.heap.update a (Obj.mapSeq fun _ => #[])).get? a = some (seqObj "list" #[] e1) := ⟨_, get?_update_seq ho (fun _ => #[])⟩
  refine wpAny_bind (seqEpoch_at ho1 rfl (wpAny_bind (wpAny_newTuple (wpAny_bind (wpAny_newList (wpAny_holding ?_))))))
  obtain ⟨B, eB⟩ : ∃ B, ((s.heap.update a (Obj.mapSeq fun _ => #[])).push (seqObj "tuple" vs.toArray 0)).push (seqObj "list" #[] 0) = B := ⟨_, rfl⟩
  have hB : ∀ b o, (s.heap.update a (Obj.mapSeq fun _ => #[])).get? b = some o → B.get? b = some o := fun b o e => by rw [← eB]; exact Heap.get?_push_of_some _ (Heap.get?_push_of_some _ e)
  have hBo : ∀ b o, b ≠ a → s.heap.get? b = some o → B.get? b = some o := fun b o hb e => hB b o ((Heap.get?_update_other _ _ (Ne.symm hb)).trans e)
  have ho6 : B.get? a = some (seqObj "list" #[] e1) := hB _ _ ho1
  have hfin : ∀ out, sortedHeap s.heap a vs out = B.update a (Obj.mapSeq fun _ => out) := fun out => by rw [← eB]; rfl
  show wpAny (model P w) A _ Q E { s with heap := ((s.heap.update a (Obj.mapSeq fun _ => #[])).push (seqObj "tuple" vs.toArray 0)).push (seqObj "list" #[] 0) }
  rw [eB]
  dsimp only
  have out : ∀ ys : Array Keyed, ys.Perm (pairsOf vs) → (ys.toList.Pairwise fun a b => kL (kF F) a b = true) → (ys.map (·.2)).size ≤ sizeLine ∧ Q (.done (.ret .none)) { s with heap := B.update a (Obj.mapSeq fun _ => ys.map (·.2)) } := fun ys hp hs => by
    have el : (ys.map (·.2)).toList.Perm vs := by
      rw [Array.toList_map]
      refine ((Array.perm_iff_toList_perm.mp hp).map _).trans (List.Perm.of_eq ?_)
      show (vs.toArray.zip vs.toArray).toList.map (·.2) = _
      rw [List.zip_toArray, List.map_snd_zip (Nat.le_refl _)]
    refine ⟨by rw [← Array.length_toList, el.length_eq]; exact hz, ?_⟩
    rw [← hfin]
    refine h _ el ?_
    rw [Array.toList_map, List.pairwise_map]
    refine hs.imp_of_mem fun {x y} hx hy hxy b c ns ms e1 e2 f1 f2 => ?_
    have q : ∀ z ∈ ys.toList, z.1 = z.2 := fun z hz => by
      have hz : z ∈ (vs.toArray.zip vs.toArray).toList := (Array.perm_iff_toList_perm.mp hp).mem_iff.mp hz
      rw [List.zip_toArray] at hz
      obtain ⟨i, hi, rfl⟩ := List.mem_iff_getElem.mp hz
      simp
    have k1 : kx (kF F) x = ns := by
      show ((kF F).keyOf x.1).getD _ = _
      rw [q x hx, e1]
      show (F b).getD _ = _
      rw [f1]; rfl
    have k2 : kx (kF F) y = ms := by
      show ((kF F).keyOf y.1).getD _ = _
      rw [q y hy, e2]
      show (F c).getD _ = _
      rw [f2]; rfl
    rw [← k1, ← k2]
    exact hxy
  by_cases h2 : vs.toArray.size < 2
  · rw [if_pos h2, if_pos h2]
    refine wpAny_bind (wpAny_pure ?_)
    rw [StateT.run_pure]
    refine wpAny_bind (wpAny_pure ?_)
    obtain ⟨o1, o2⟩ := out (vs.toArray.zip vs.toArray) (.refl _) (by
      rw [List.zip_toArray]
      match vs, h2 with
      | [], _ => exact .nil
      | [v], _ => exact List.pairwise_singleton _ _
      | _ :: _ :: _, h2 => simp at h2; lia)
    dsimp only
    refine wpAny_bind (seqEpoch_at ho6 rfl (wpAny_bind (listUpdate_at ho6 rfl ?_ (hsz2 := Nat.le_succ_of_le o1))))
    simp only [bne_self_eq_false, Bool.false_eq_true, if_false]
    exact wpAny_pure o2
  · rw [if_neg h2, if_neg h2]
    have h2' : 2 ≤ vs.length := by
      rw [List.size_toArray] at h2
      lia
    have hLB : ∀ b ns, F b = some ns → ∃ its : Array Value, PlainL B b its ∧ IntsAre its.toList ns := fun b ns hb => by
      obtain ⟨hne, its, ⟨o, k, g1, g2⟩, hi⟩ := hF b ns hb
      exact ⟨its, ⟨o, k, hBo b o hne g1, g2⟩, hi⟩
    refine wpAny_bind (kas_kind (T := .type "list") h2' (fun v hv => ?_) (by decide) (by decide) ?_)
    · obtain ⟨b, ns, rfl, hb⟩ := hL v hv
      obtain ⟨its, ⟨o, k, g1, g2, _⟩, _⟩ := hLB b ns hb
      rw [← g2]
      exact (Looks.ld g1).andThen .now
    have lo : LtOk P w A { s with heap := B } (kF F) oneType' := fun E x y a b Q hx hy hq => by
      have rf : ∀ {x : Value} {a : List Int}, (kF F).keyOf x = some a → ∃ c, x = .ref c ∧ F c = some a := fun {x a} h => by
        cases x with
        | ref c => exact ⟨c, rfl, h⟩
        | _ => cases h
      obtain ⟨c, rfl, hc⟩ := rf hx
      obtain ⟨d, rfl, hd⟩ := rf hy
      obtain ⟨i1, p1, j1⟩ := hLB c a hc
      obtain ⟨i2, p2, j2⟩ := hLB d b hd
      exact one_ltF p1 p2 j1 j2 hu hq
    have gk : Gk (kF F) (pairsOf vs) := fun p hp => by
      have hp : p ∈ (vs.toArray.zip vs.toArray).toList := hp
      rw [List.zip_toArray] at hp
      obtain ⟨b, ns, e, hb⟩ := hL p.1 (List.of_mem_zip hp).1
      rw [e]
      show (F b).isSome = true
      rw [hb]; rfl
    refine wpAny_bind (wpAny_mono (wp_sortRuns (E := E) (Q := fun _ st' => failedOf st' = none ∧ (arrOf st').Perm (pairsOf vs) ∧ ((arrOf st').toList.Pairwise fun a b => kL (kF F) a b = true)) lo gk fun ys p g hp hs => ⟨rfl, hp, hs⟩) (fun r s' hr => ?_) fun _ _ e => e)
    obtain ⟨⟨⟩, st'⟩ := r
    obtain ⟨rfl, hf, hp, hs⟩ := hr
    obtain ⟨o1, o2⟩ := out (arrOf st') hp hs
    dsimp only
    refine wpAny_bind (seqEpoch_at ho6 rfl (wpAny_bind (listUpdate_at ho6 rfl ?_ (hsz2 := Nat.le_succ_of_le o1))))
    rw [hf]
    simp only [bne_self_eq_false, Bool.false_eq_true, if_false]
    exact wpAny_pure o2
theorem sortedF {F : Addr → Option (List Int)} {l : Addr} {vs : List Value} {Q : Value → Shared → Prop} (hl : s.heap.IsList l vs.toArray) (hF : LsF s.heap s.heap.objs.size F) (hL : ∀ v ∈ vs, ∃ b ns, v = .ref b ∧ F b = some ns) (hu : A.units + 8 < cLine) (hz : vs.length ≤ sizeLine)
    (h : ∀ out : Array Value, out.toList.Perm vs → (out.toList.Pairwise fun x y => ∀ b c ns ms, x = .ref b → y = .ref c → F b = some ns → F c = some ms → lxLe ns ms = true) → Q (.ref (s.heap.objs.size + 1)) { s with heap := sortedAll s.heap vs out }) : wpAny (model P w) A (call (.builtin "sorted") [.ref l]) Q E s := by
  refine Calls.call_function_entry kind_sorted plain_sorted entry_sorted (args_sorted1 _) ?_
  unfold Builtin.«sorted»
  refine wpAny_bind (m := checkCount "sorted" 1 1 _) (wpAny_pure (wpAny_bind (collect_list hl (wpAny_bind (wpAny_newList ?_)))))
  have hsz : ((s.heap.push (seqObj "list" #[] 0)).update s.heap.objs.size (Obj.mapSeq (· ++ vs.toArray))).objs.size = s.heap.objs.size + 1 := by rw [Heap.size_update, size_push']
  obtain ⟨B, eB⟩ : ∃ B, ((s.heap.push (seqObj "list" #[] 0)).update s.heap.objs.size (Obj.mapSeq (· ++ vs.toArray))).push (seqObj "list" vs.toArray 0) = B := ⟨_, rfl⟩
  have hoL : B.get? (s.heap.objs.size + 1) = some (seqObj "list" vs.toArray 0) := by rw [← hsz, ← eB]; exact Heap.get?_push_size _ rfl
  have keep : ∀ b o, s.heap.get? b = some o → B.get? b = some o := fun b o q => by
    have hlt : b < s.heap.objs.size := Heap.lt_size q
    rw [← eB]
    exact Heap.get?_push_of_some _ ((Heap.get?_update_other _ _ (Nat.ne_of_gt hlt)).trans (Heap.get?_push_of_some _ q))
  have fin : ∀ out, sortedAll s.heap vs out = sortedHeap B (s.heap.objs.size + 1) vs out := fun out => by rw [← eB]; rfl
  show wpAny _ _ _ _ _ { s with heap := ((s.heap.push (seqObj "list" #[] 0)).update s.heap.objs.size (Obj.mapSeq (· ++ vs.toArray))).push (seqObj "list" vs.toArray 0) }
  rw [hsz, eB]
  refine wpAny_bind (wpAny_holding (wpAny_call_entry slot_list_sort ⟨_, hoL, rfl⟩ entry_list_sort (list_sortF (s := { s with heap := B }) hoL (fun b ns hb => ?_) hL ?_ hz fun out hp hs => ⟨_, rfl, wpAny_pure ⟨_, rfl, ?_⟩⟩) (args_list_sort _)))
  · obtain ⟨_, its, ⟨o, k, g1, g2⟩, hi⟩ := hF b ns hb
    exact ⟨Nat.ne_of_lt (Nat.lt_succ_of_lt (Heap.lt_size g1)), its, ⟨o, k, keep b o g1, g2⟩, hi⟩
  · show A.units + 1 + 1 < cLine
    lia
  · have := h out hp hs
    rw [fin] at this
    exact this
end
section
variable {X : Cx}
theorem call_sortedLx (hu : X.A.units + 64 < cLine) : CallR X (.builtin "sorted") (fun xs H Q => ∃ (p : Addr) (ts : List Addr) (rows : List (List Int)), xs = [.ref p] ∧ H p = some (.lst (ts.map V.ref)) ∧ RwA H ts rows ∧ ∀ (l : Addr) (ts' : List Addr), H l = none → ts'.Perm ts → RwA H ts' (srt rows) → Q (.ref l) (upd H l (.lst (ts'.map V.ref)))) := by
  intro pins s σ H xs us Q I r h
  obtain ⟨p, ts, rows, rfl, hp, hR, q⟩ := h
  obtain ⟨u, rfl, rx⟩ := vals1 r
  cases rx
  obtain ⟨hz, its, n, rv, hl⟩ := (show ObjOk X.prog X.w H s.heap p (.lst (ts.map V.ref)) from I.hok p _ hp)
  have ei := refs_of rv
  subst ei
  have hFH : ∀ b ns, FH H ts b = some ns → b ∈ ts ∧ H b = rwO ns := fun b ns e => by
    by_cases hb : b ∈ ts
    · obtain ⟨r, _, er⟩ := hR.row hb
      rw [hR.fh hb er] at e
      cases e
      exact ⟨hb, er⟩
    · unfold FH at e
      rw [if_neg hb] at e
      cases e
  refine sortedF (F := FH H ts) (vs := ts.map Value.ref) ⟨_, hl, rfl, _, rfl⟩ (fun b ns hb => ?_) (fun v hv => ?_) (by lia) (by rw [List.length_map]; rw [List.length_map] at hz; exact hz) fun out hpm hs => ?_
  · obtain ⟨_, hn⟩ := hFH b ns hb
    obtain ⟨its, r1, p1, _⟩ := I.list (SqL.of hn)
    have hlt : b < s.heap.objs.size := by
      obtain ⟨o, k, g, _⟩ := id p1
      exact Heap.lt_size g
    exact ⟨Nat.ne_of_lt hlt, its.toArray, p1, intsAre_of r1⟩
  · obtain ⟨t, ht, rfl⟩ := List.mem_map.mp hv
    obtain ⟨r, _, er⟩ := hR.row ht
    exact ⟨t, r, rfl, hR.fh ht er⟩
  · obtain ⟨ts', hp', e⟩ := perm_refs hpm
    obtain ⟨e0, he⟩ := sortedAll_at s.heap (ts.map Value.ref) out
    rw [e, List.pairwise_map] at hs
    refine ⟨.ref (s.heap.objs.size + 1), _, I.laid (a := s.heap.objs.size + 1) (o := .lst (ts'.map V.ref)) (t' := s.toks) (fun b o hb => sortedAll_old hb) (Nat.le_succ _) ⟨?_, out.toList, e0, by rw [e]; exact vals_rfs ts', by simpa [seqObj] using he⟩, rfl, q _ ts' (I.hok.fresh (Nat.le_succ _)) hp' (hR.sorted hp' (hs.imp fun hab x y hx hy => hab _ _ x y rfl rfl hx hy))⟩
    rw [List.length_map, hp'.length_eq]
    rw [List.length_map] at hz
    exact hz
end
theorem RwA.same {H H' : Hp} {ts : List Addr} {A : List (List Int)} (h : RwA H ts A) (s : Same H H') : RwA H' ts A := by
  have e : ts.map H = A.map rwO := h
  show ts.map H' = A.map rwO
  rw [← e]
  refine List.map_congr_left fun t ht => ?_
  obtain ⟨r, _, e⟩ := h.row ht
  rw [e]
  exact s _ _ e
theorem RwA.up {H : Hp} {ts : List Addr} {A : List (List Int)} {l : Addr} {o : HO} (h : RwA H ts A) (hl : ∀ t ∈ ts, t ≠ l) : RwA (upd H l o) ts A := by
  have e : ts.map H = A.map rwO := h
  show ts.map (upd H l o) = A.map rwO
  rw [← e]
  exact List.map_congr_left fun t ht => upd_ne (hl t ht)
theorem RwA.app {H : Hp} {ts us : List Addr} {A B : List (List Int)} (h1 : RwA H ts A) (h2 : RwA H us B) : RwA H (ts ++ us) (A ++ B) := by
  show (ts ++ us).map H = (A ++ B).map rwO
  rw [List.map_append, List.map_append, show ts.map H = _ from h1, show us.map H = _ from h2]
theorem RwA.take {H : Hp} {ts : List Addr} {A : List (List Int)} (h : RwA H ts A) (n : Nat) : RwA H (ts.take n) (A.take n) := by
  show (ts.take n).map H = (A.take n).map rwO
  rw [List.map_take, List.map_take, show ts.map H = _ from h]
theorem RwA.drop {H : Hp} {ts : List Addr} {A : List (List Int)} (h : RwA H ts A) (n : Nat) : RwA H (ts.drop n) (A.drop n) := by
  show (ts.drop n).map H = (A.drop n).map rwO
  rw [List.map_drop, List.map_drop, show ts.map H = _ from h]
theorem RwA.get {H : Hp} {ts : List Addr} {A : List (List Int)} {i : Nat} {t : Addr} (h : RwA H ts A) (ht : ts[i]? = some t) : ∃ r, A[i]? = some r ∧ H t = rwO r := by
  have := congrArg (·[i]?) (show ts.map H = _ from h)
  simp only [List.getElem?_map, ht] at this
  obtain ⟨r, h1, h2⟩ := Option.map_eq_some_iff.mp this.symm
  exact ⟨r, h1, h2.symm⟩
theorem RwA.one {H : Hp} {t : Addr} {r : List Int} (e : H t = rwO r) : RwA H [t] [r] := by
  show [H t] = [rwO r]
  rw [e]
theorem cut_take {α : Type} (f : α → V) (xs : List α) (m : Nat) : cutV (xs.map f) none (some (m : Int)) = (xs.take m).map f := by
  unfold cutV
  rw [HT.sIx_nat, HT.sIx_none, List.drop_zero, Nat.sub_zero, List.map_take]
  rcases Nat.le_total m (xs.map f).length with h | h
  · rw [Nat.min_eq_left h]
  · rw [Nat.min_eq_right h, List.take_length, List.take_of_length_le h]
theorem cut_drop {α : Type} (f : α → V) (xs : List α) (m : Nat) : cutV (xs.map f) (some (m : Int)) none = (xs.drop m).map f := by
  unfold cutV
  rw [HT.sIx_nat, HT.sIx_none, List.map_drop]
  rcases Nat.le_total m (xs.map f).length with h | h
  · rw [Nat.min_eq_left h]
    exact List.take_of_length_le (by rw [List.length_drop]; exact Nat.le_refl _)
  · rw [Nat.min_eq_right h, Nat.sub_self, List.take_zero, List.drop_eq_nil_of_le h]
end L2


set_option linter.all false
set_option maxRecDepth 100000
set_option maxHeartbeats 4000000
namespace L2
open PySem PySem.Spec PyProof.Rows
theorem bn1 {us : List Value} {dv : Value} (e : (us ++ [dv]).length = 2) : ∃ u, us = [u] := by
  match us, e with
  | [u], _ => exact ⟨u, rfl⟩
  | [], e => cases e
  | _ :: _ :: _, e => simp at e
structure UsedI2 (P : Program) (w : World) (K : PySem.W.Frag) (mg : Str → Option Value) (CX : CXT) (k : Nat) (C : Addr) (ps : List Str) (sp : Sp) (v : Int) : Prop where
  all : UsedI P w K mg CX k C ps sp
  dfl : ∃ f fd t, (∀ base, FnOk P w K mg base CX k f fd ps sp) ∧ Mk K C f ∧ Binds K fd ps [.int v t]
inductive LnE (K : PySem.W.Frag) (x q : Str) (st : Stmt) (f : Addr) (v : Int) : Prop
  | mk {oc : Value} {od an : Option Addr} {osl : Array (Option Value)} {T : Addr} {kV doc pm cdv ct : Value} {o : Obj} {t : Tok} {n : Nat} : K.lookup f = some ⟨oc, od, .func (PySem.W.fnOf x q (defArgs st) (defBody st) (defScope st) (.ref T) kV doc pm an cdv ct), osl⟩ → PySem.W.codeIn K cdv q = true → PySem.W.keepIn K (.ref f) = true → K.lookup T = some o → o.data = .seq #[.int v t] n → LnE K x q st f v
inductive ALe (K : PySem.W.Frag) (c : Addr) (x q : Str) (st : Stmt) (f : Addr) (v : Int) : Prop
  | mk : An K c x f → LnE K x q st f v → ALe K c x q st f v
section
variable {P : Program} {w : World} {K : PySem.W.Frag} {h : Heap} {mg : Str → Option Value} {CX : CXT} {k : Nat} {q : Str} {st : Stmt} {C f : Addr} {ps : List Str} {sp : Sp} {v : Int}
theorem usCe (E : HE P w K h mg) (h1 : PySem.W.makesIn K C = true) (h2 : PySem.W.keepIn K (.ref C) = true) (d : ALe K C "__init__" q st f v) (o : GdD P w K mg CX k "__init__" q st ps sp) (b : ∀ (T : Addr) (kV doc pm : Value) (an : Option Addr) (cdv ct : Value) (us : List Value), us.length = ps.length → ∃ j : Option (Array Value) → Sem (List (Str × Value)), bindArgs (PySem.W.fnOf "__init__" q (defArgs st) (defBody st) (defScope st) (.ref T) kV doc pm an cdv ct) ⟨us, []⟩ = seqItems? (.ref T) >>= j ∧ ∀ dv, j (some #[dv]) = pure (ps.zip us) := by intro _ _ _ _ _ _ _; exact bn 2 fun _ _ => ⟨_, rfl, fun _ => rfl⟩)
    (b' : ∀ (T : Addr) (kV doc pm : Value) (an : Option Addr) (cdv ct : Value) (us : List Value) (dv : Value), (us ++ [dv]).length = ps.length → ∃ j : Option (Array Value) → Sem (List (Str × Value)), bindArgs (PySem.W.fnOf "__init__" q (defArgs st) (defBody st) (defScope st) (.ref T) kV doc pm an cdv ct) ⟨us, []⟩ = seqItems? (.ref T) >>= j ∧ j (some #[dv]) = pure (ps.zip (us ++ [dv])) := by intro _ _ _ _ _ _ _ us dv hl; obtain ⟨u, rfl⟩ := bn1 hl; exact ⟨_, rfl, rfl⟩) : UsedI2 P w K mg CX k C ps sp v := by
  cases d with
  | mk a l =>
    cases l with
    | @mk _ _ _ _ _ _ _ _ _ _ _ tk _ l1 l2 l3 l4 l5 =>
      refine ⟨usCd E h1 h2 (.mk a (.mk l1 l2 l3 l4 l5)) o b, ?_⟩
      cases a with
      | mk a j =>
        refine ⟨f, _, tk, fun _ => o ⟨⟨_, _, _, _, _, _, _, _, _, _, _, _, _, rfl, l1, l2, l4, l5⟩, l3⟩, ⟨h1, a, j, h2⟩, fun s us X hl => ?_⟩
        obtain ⟨j, b1, b2⟩ := b' _ _ _ _ _ _ _ us _ hl
        exact PySem.W.binds_K (args := ⟨us, []⟩) X rfl l4 l5 b1 b2
end
section
variable {X : Cx} {CX : CXT} {k j : Nat} {C : Addr} {ps : List Str} {sp : Sp} {E : XK} {x m : Str} {p pos : Pos} {v : Int}
theorem pkUd (U : UsedI2 X.prog X.w X.K X.mg CX k C ps sp v) (hr : Room j X.A) (hm : X.mg x = some (.ref C)) (hx : Passes CX X E) (hj : k + 1 ≤ j := by decide) (hg : Gl X x := by rfl) (hdb : (x == ("__debug__" : Str)) = false := by decide) : PE X (.Call (.Name x p) [] [] pos) (tMake C sp [.int v] E tNil) := by
  obtain ⟨f, fd, t, G, M, b⟩ := U.dfl
  exact pe_make0 M (G X.base) (hr.mono hj) hg hm b (.cons ⟨t, rfl⟩ .nil) hx hdb
end
end L2


set_option linter.all false
set_option maxRecDepth 100000
set_option maxHeartbeats 4000000
namespace FR
open PySem L2
abbrev Rws := List (List Int)

def prs (A B : Rws) : Rws := A.flatMap fun a => B.map fun b => a ++ b
def SrR (A : Rws) : Prop := A.Pairwise fun a b => lxLe a b = true
theorem srt_perm (A : Rws) : (srt A).Perm A := List.mergeSort_perm _ _
theorem srt_sr (A : Rws) : SrR (srt A) := List.pairwise_mergeSort lxLe_tr lxLe_tot _
theorem SrR.srt {A : Rws} (h : SrR A) : L2.srt A = A := (srt_uniq h (.refl _)).symm
theorem srt_len (A : Rws) : (srt A).length = A.length := (srt_perm A).length_eq
theorem prs_app (A A' B : Rws) : prs (A ++ A') B = prs A B ++ prs A' B := List.flatMap_append ..

def Ahd (f g : List Int) : Prop := ∀ x y, HT.lexLt (f ++ x) (g ++ y) = true
theorem ahd_of : ∀ {f g : List Int}, HT.lexLt f g = true → ¬ f <+: g → Ahd f g
  | [], g, _, h => absurd (List.nil_prefix) h
  | a :: f, [], h, _ => by cases h
  | a :: f, c :: g, h, hn => fun x y => by
    rw [List.cons_append, List.cons_append, HT.lexLt_cons]
    rw [HT.lexLt_cons] at h
    by_cases e : a = c
    · subst e
      rw [if_pos rfl] at h ⊢
      exact ahd_of h (fun z => hn (List.prefix_cons_inj a |>.mpr z)) x y
    · rw [if_neg e] at h ⊢
      exact h
theorem Ahd.up {f g g' : List Int} (h : Ahd f g) (hg : lxLe g g' = true) : Ahd f g' := by
  have h1 : HT.lexLt f g = true := by have := h [] []; rwa [List.append_nil, List.append_nil] at this
  refine ahd_of ?_ ?_
  · cases e : HT.lexLt f g' with
    | true => rfl
    | false =>
      have : lxLe g' f = true := by unfold lxLe; rw [e]; rfl
      have := lxLe_tr _ _ _ hg this
      unfold lxLe at this
      rw [h1] at this
      cases this
  · rintro ⟨z, rfl⟩
    have := h z []
    rw [List.append_nil] at this
    unfold lxLe at hg
    rw [this] at hg
    cases hg

def Bnd (A A' : Rws) : Prop := ∀ a ∈ A, ∀ a' ∈ A', ∀ x y, lxLe (a ++ x) (a' ++ y) = true
theorem srt_app {A B : Rws} (h : ∀ a ∈ A, ∀ b ∈ B, lxLe a b = true) : srt (A ++ B) = srt A ++ srt B := by
  refine (srt_uniq ?_ ((srt_perm A).append (srt_perm B))).symm
  refine List.pairwise_append.mpr ⟨srt_sr A, srt_sr B, fun a ha b hb => h a ((srt_perm A).mem_iff.mp ha) b ((srt_perm B).mem_iff.mp hb)⟩
theorem mem_prs {A B : Rws} {r : List Int} : r ∈ prs A B ↔ ∃ a ∈ A, ∃ b ∈ B, r = a ++ b := by
  unfold prs
  rw [List.mem_flatMap]
  exact ⟨fun ⟨a, ha, h⟩ => by obtain ⟨b, hb, e⟩ := List.mem_map.mp h; exact ⟨a, ha, b, hb, e.symm⟩, fun ⟨a, ha, b, hb, e⟩ => ⟨a, ha, List.mem_map.mpr ⟨b, hb, e.symm⟩⟩⟩
theorem srt_prs {A A' B : Rws} (h : Bnd A A') : srt (prs (A ++ A') B) = srt (prs A B) ++ srt (prs A' B) := by
  rw [prs_app]
  refine srt_app fun a ha b hb => ?_
  obtain ⟨x, hx, y, hy, rfl⟩ := mem_prs.mp ha
  obtain ⟨x', hx', y', hy', rfl⟩ := mem_prs.mp hb
  exact h x hx x' hx' y y'

theorem bnd_group {A G R : Rws} {f : List Int} (hA : Bnd A (f :: G ++ R)) (hs : SrR (f :: G ++ R)) (hG : ∀ g ∈ G, f <+: g) (hR : ∀ r, R.head? = some r → ¬ f <+: r) : Bnd (A ++ f :: G) R := by
  have hall : ∀ r ∈ R, Ahd f r := by
    match R, hR, hs with
    | [], _, _ => exact fun r h => nomatch h
    | r0 :: R, hR, hs =>
      have hp := List.pairwise_append.mp hs
      have h0 : lxLe f r0 = true := hp.2.2 f (.head _) r0 (.head _)
      have n0 := hR r0 rfl
      have a0 : Ahd f r0 := ahd_of (by
        cases e : HT.lexLt f r0 with
        | true => rfl
        | false =>
          exfalso
          have : lxLe r0 f = true := by unfold lxLe; rw [e]; rfl
          rw [lxLe_anti h0 this] at n0
          exact n0 (List.prefix_refl _)) n0
      intro r hr
      rcases List.mem_cons.mp hr with rfl | hr
      · exact a0
      · exact a0.up ((List.pairwise_cons.mp hp.2.1).1 r hr)
  intro a ha r hr x y
  rcases List.mem_append.mp ha with ha | ha
  · exact hA a ha r (List.mem_append_right _ hr) x y
  · have hpre : f <+: a := by
      rcases List.mem_cons.mp ha with rfl | ha
      · exact List.prefix_refl _
      · exact hG a ha
    obtain ⟨z, rfl⟩ := hpre
    have := hall r hr (z ++ x) y
    rw [List.append_assoc]
    unfold lxLe
    rw [lx_asy this]
    rfl
theorem bnd_nil (A : Rws) : Bnd [] A := fun _ h => nomatch h
theorem pre_iff {f r : List Int} : r.take f.length = f ↔ f <+: r := ⟨fun h => ⟨r.drop f.length, by rw [← h]; rw [List.length_take]; rw [h]; exact (by
  have := List.take_append_drop f.length r
  rw [h] at this
  have e : min f.length r.length = f.length := by
    have := congrArg List.length h
    rw [List.length_take] at this
    exact this
  rw [e]
  exact this)⟩, fun ⟨z, h⟩ => by rw [← h, List.take_left]⟩

def mrg (x y : List Int) : List Int := ((List.range 60).map fun k : Nat => (k : Int)).filter fun k => decide (k ∈ x) || decide (k ∈ y)
def Rs (x : List Int) : Prop := x.Pairwise (· < ·) ∧ ∀ n ∈ x, 0 ≤ n ∧ n < 60
theorem mem_r60 {n : Int} : n ∈ ((List.range 60).map fun k : Nat => (k : Int)) ↔ 0 ≤ n ∧ n < 60 := by
  rw [List.mem_map]
  exact ⟨fun ⟨k, hk, e⟩ => by have := List.mem_range.mp hk; lia, fun ⟨h1, h2⟩ => ⟨n.toNat, List.mem_range.mpr (by lia), by lia⟩⟩
theorem mrg_rs (x y : List Int) : Rs (mrg x y) := by
  refine ⟨List.Pairwise.filter _ ?_, fun n h => mem_r60.mp (List.mem_filter.mp h).1⟩
  rw [List.pairwise_map]
  exact (List.pairwise_lt_range (n := 60)).imp fun h => Int.ofNat_lt.mpr h
theorem mem_mrg {x y : List Int} (hx : Rs x) (hy : Rs y) {n : Int} : n ∈ mrg x y ↔ n ∈ x ∨ n ∈ y := by
  unfold mrg
  rw [List.mem_filter, Bool.or_eq_true, decide_eq_true_eq, decide_eq_true_eq, mem_r60]
  exact ⟨fun h => h.2, fun h => ⟨h.elim (hx.2 n) (hy.2 n), h⟩⟩
theorem rise_eq {x y : List Int} (hx : x.Pairwise (· < ·)) (hy : y.Pairwise (· < ·)) (h : ∀ n, n ∈ x ↔ n ∈ y) : x = y := by
  refine List.Perm.eq_of_pairwise (le := (· < ·)) (fun a b _ _ h1 h2 => by lia) hx hy ?_
  refine (List.perm_ext_iff_of_nodup (hx.imp fun h => Int.ne_of_lt h) (hy.imp fun h => Int.ne_of_lt h)).mpr h
theorem Rs.len {x : List Int} (h : Rs x) : x.length ≤ 60 := by
  have := rise_eq (mrg_rs x x).1 h.1 (fun n => (mem_mrg h h).trans ⟨fun z => z.elim id id, .inl⟩)
  rw [← this]
  unfold mrg
  refine Nat.le_trans (List.length_filter_le ..) ?_
  rw [List.length_map, List.length_range]
  exact Nat.le_refl _
def OkU (o : Option (List Int)) : Prop := ∀ x, o = some x → Rs x

def eiU : Option (List Int) → Option (List Int) → Option (List Int)
  | none, y => y
  | x, none => x
  | some x, some y => some (mrg x y)
def boU : Option (List Int) → Option (List Int) → Option (List Int)
  | some x, some y => some (mrg x y)
  | _, _ => none
theorem okU_ei {x y : Option (List Int)} (hx : OkU x) (hy : OkU y) : OkU (eiU x y) := by
  cases x <;> cases y <;> intro z h <;> simp only [eiU] at h
  · cases h
  · exact hy z h
  · exact hx z h
  · cases h; exact mrg_rs _ _
theorem okU_bo {x y : Option (List Int)} : OkU (boU x y) := by
  cases x <;> cases y <;> intro z h <;> simp only [boU] at h
  all_goals cases h
  exact mrg_rs _ _
end FR


set_option linter.all false
set_option maxRecDepth 100000
set_option maxHeartbeats 4000000
namespace FR
open PySem L2
def top (i : Nat) : Stmt := PySem.Challenge.pw_forestread_k42_used_and_listed.main.body.getD i (.Pass ⟨0, 0, 0, 0⟩)
abbrev s_Used_nothing : Stmt := inClass (top 2) 0
abbrev s_Used_blank : Stmt := inClass (top 2) 1
abbrev s_Used_of_rule : Stmt := inClass (top 2) 2
abbrev s_Used_either : Stmt := inClass (top 2) 3
abbrev s_Used_both : Stmt := inClass (top 2) 4
abbrev s_begins_with : Stmt := top 3
abbrev s_group_from : Stmt := top 4
abbrev s_longer_rows : Stmt := top 5
abbrev s_Listed___init__ : Stmt := inClass (top 6) 0
abbrev s_Listed_nothing : Stmt := inClass (top 6) 1
abbrev s_Listed_blank : Stmt := inClass (top 6) 2
abbrev s_Listed_of_rule : Stmt := inClass (top 6) 3
abbrev s_Listed_either : Stmt := inClass (top 6) 4
abbrev s_Listed_both : Stmt := inClass (top 6) 5
abbrev s__law_mixed : Stmt := top 8
abbrev s__law_used : Stmt := top 9
abbrev s__law_rows : Stmt := top 10
abbrev s__law_copy : Stmt := top 11
abbrev s__law_numbers : Stmt := top 12
abbrev s__law_merged : Stmt := top 13
abbrev s__law_either : Stmt := top 14
abbrev s__law_both : Stmt := top 15
abbrev s__law_used_right : Stmt := top 16
abbrev s__law_lists : Stmt := top 17
abbrev s__law_joined : Stmt := top 18
abbrev s__law_listed_right : Stmt := top 19
abbrev s__law_begun : Stmt := top 20
abbrev s__law_all_used : Stmt := top 21
abbrev s__law_all_listed : Stmt := top 22
abbrev s_law : Stmt := top 23
structure Adr where
  Tally : Addr
  Used : Addr
  Listed : Addr
  none_ : Addr
structure Txt (K : PySem.W.Frag) (mg : Str → Option Value) (C : Adr) : Prop where
  z_sorted : mg "sorted" = none
  z_set : mg "set" = none
  z_len : mg "len" = none
  z_list : mg "list" = none
  z_range : mg "range" = none
  z_isinstance : mg "isinstance" = none
  z_bool : mg "bool" = none
  z_int : mg "int" = none
  n_Tally : mg "Tally" = some (.ref C.Tally)
  n_Used : mg "Used" = some (.ref C.Used)
  n_Listed : mg "Listed" = some (.ref C.Listed)
  cl_Listed : Cls K C.Listed
  cl_Used : Cls K C.Used
  na_Listed_most : NoAttr K C.Listed "most"
  mk_Used : Mk0 K C.Used
  ca_Used : PySem.W.findIn K (.ref C.Used) "__class__" = some (some (.builtin "object.__class__"))
  hm_Used : PySem.W.mroIn K C.Used (.type "object") = some true
  ca_Listed : PySem.W.findIn K (.ref C.Listed) "__class__" = some (some (.builtin "object.__class__"))
  hm_Listed : PySem.W.mroIn K C.Listed (.type "object") = some true
  hn_ : PySem.W.specialIn K (.builtin "object.__class__") "__get__" = some (some (.builtin "getset_descriptor.__get__"))
  htk_ : PySem.W.takesIn K (.builtin "object.__class__") = some true
  kUT : PySem.W.kitOne K (.ref C.Used) (.ref C.Tally) = some true
  kLT : PySem.W.kitOne K (.ref C.Listed) (.ref C.Tally) = some true
  kUL : PySem.W.kitOne K (.ref C.Used) (.ref C.Listed) = some false
  kLU : PySem.W.kitOne K (.ref C.Listed) (.ref C.Used) = some false

end FR


set_option linter.all false
set_option Elab.async false
set_option maxRecDepth 100000
set_option maxHeartbeats 4000000
namespace FR
open PySem L2
theorem nd_K42a_more_row : (["more", "row"] : List Str).Nodup := by decide +kernel
theorem newG {H : Hp} {l : Addr} (o : HO) (hl : H l = none) : ∃ G, upd H l o = G ∧ Same H G ∧ G l = some o := ⟨_, rfl, Same.upd hl, upd_same⟩

def LL (H : Hp) (a : Addr) (A : Rws) : Prop := ∃ ts : List Addr, H a = some (.lst (ts.map V.ref)) ∧ RwA H ts A
def LLf (H H' : Hp) (v : V) (A : Rws) : Prop := ∃ (a : Addr) (ts : List Addr), v = .ref a ∧ H a = none ∧ H' a = some (.lst (ts.map V.ref)) ∧ RwA H' ts A ∧ ∀ t ∈ ts, H t = none
theorem LL.same {H H' : Hp} {a : Addr} {A : Rws} (h : LL H a A) (s : Same H H') : LL H' a A := by
  obtain ⟨ts, h1, h2⟩ := h
  exact ⟨ts, s _ _ h1, h2.same s⟩

def UV (H : Hp) (o : Option (List Int)) (v : V) : Prop := match o with
  | none => v = .non
  | some x => ∃ a, v = .ref a ∧ H a = some (.lst (x.map V.int))
def UVf (H H' : Hp) (o : Option (List Int)) (v : V) : Prop := match o with
  | none => v = .non
  | some x => ∃ a, v = .ref a ∧ H a = none ∧ H' a = some (.lst (x.map V.int))
theorem UVf.uv {H H' : Hp} {o : Option (List Int)} {v : V} (h : UVf H H' o v) : UV H' o v := by
  cases o with
  | none => exact h
  | some x => obtain ⟨a, h1, _, h2⟩ := h; exact ⟨a, h1, h2⟩
theorem UV.same {H H' : Hp} {o : Option (List Int)} {v : V} (h : UV H o v) (s : Same H H') : UV H' o v := by
  cases o with
  | none => exact h
  | some x => obtain ⟨a, h1, h2⟩ := h; exact ⟨a, h1, s _ _ h2⟩
inductive spUB_ (vs : List V) (H : Hp) (Q : VK) : Prop where
  | mk (s : _) (h0_ : vs = [s]) (h1_ : ∀ l, H l = none → Q (.ref l) (upd H l (.lst []))) : spUB_ vs H Q
def spUB : Sp := fun vs H Q E_ => spUB_ vs H Q
inductive spUR_ (vs : List V) (H : Hp) (Q : VK) : Prop where
  | mk (s : _) (n : Int) (u : _) (h0_ : vs = [s, .int n, u]) (h1_ : ∀ l, H l = none → Q (.ref l) (upd H l (.lst [.int n]))) : spUR_ vs H Q
def spUR : Sp := fun vs H Q E_ => spUR_ vs H Q
inductive spU2_ (f : Option (List Int) → Option (List Int) → Option (List Int)) (vs : List V) (H : Hp) (Q : VK) : Prop where
  | mk (s : _) (x : _) (y : _) (ox : _) (oy : _) (h0_ : vs = [s, x, y]) (h1_ : UV H ox x) (h2_ : UV H oy y) (h3_ : OkU ox) (h4_ : OkU oy) (h5_ : ∀ v H', Same H H' → UVf H H' (f ox oy) v → Q v H') : spU2_ f vs H Q
def spU2 (f : Option (List Int) → Option (List Int) → Option (List Int)) : Sp := fun vs H Q E_ => spU2_ f vs H Q
inductive spBegins_ (vs : List V) (H : Hp) (Q : VK) : Prop where
  | mk (a b : Addr) (x y : List Int) (h0_ : vs = [.ref a, .ref b]) (h1_ : H a = rwO x) (h2_ : H b = rwO y) (h3_ : ∀ H', Same H H' → Q (.bl (decide (y <+: x))) H') : spBegins_ vs H Q
def spBegins : Sp := fun vs H Q E_ => spBegins_ vs H Q
inductive spGroup_ (vs : List V) (H : Hp) (Q : VK) : Prop where
  | mk (a : Addr) (p : Nat) (ts : List Addr) (A : Rws) (h0_ : vs = [.ref a, .int p]) (h1_ : H a = some (.lst (ts.map V.ref))) (h2_ : RwA H ts A) (h3_ : p < ts.length) (h4_ : ts.length ≤ 1000) (h5_ : ∀ (l : Addr) (k : Nat) (f : List Int) H', Same H H' → H' l = some (.lst (((ts.drop p).take (k + 1)).map V.ref)) → p + k < ts.length → A[p]? = some f → (∀ g ∈ (A.drop (p + 1)).take k, f <+: g) → (∀ r, (A.drop (p + 1 + k)).head? = some r → ¬ f <+: r) → Q (.ref l) H') : spGroup_ vs H Q
def spGroup : Sp := fun vs H Q E_ => spGroup_ vs H Q
inductive spLonger_ (vs : List V) (H : Hp) (Q : VK) : Prop where
  | mk (a b : Addr) (A B : Rws) (h0_ : vs = [.ref a, .ref b]) (h1_ : LL H a A) (h2_ : LL H b B) (h3_ : A.length ≤ 60) (h4_ : B.length ≤ 60) (h5_ : (∀ r ∈ A, r.length ≤ 500)) (h6_ : (∀ r ∈ B, r.length ≤ 500)) (h7_ : ∀ v H', Same H H' → LLf H H' v (srt (prs A B)) → Q v H') : spLonger_ vs H Q
def spLonger : Sp := fun vs H Q E_ => spLonger_ vs H Q
inductive spLInit_ (CL : Addr) (vs : List V) (H : Hp) (Q : VK) : Prop where
  | mk (x dx : Addr) (m : Int) (h0_ : vs = [.ref x, .int m]) (h1_ : H x = some (.ins CL dx [])) (h2_ : Q .non (upd H x (.ins CL dx [("most", .int m)]))) : spLInit_ CL vs H Q
def spLInit (CL : Addr) : Sp := fun vs H Q E_ => spLInit_ CL vs H Q
inductive spLN_ (A : Rws) (vs : List V) (H : Hp) (Q : VK) : Prop where
  | mk (s : _) (h0_ : vs = [s]) (h1_ : ∀ v H', Same H H' → LLf H H' v A → Q v H') : spLN_ A vs H Q
def spLN (A : Rws) : Sp := fun vs H Q E_ => spLN_ A vs H Q
inductive spLR_ (vs : List V) (H : Hp) (Q : VK) : Prop where
  | mk (s : _) (n : Int) (u : _) (h0_ : vs = [s, .int n, u]) (h1_ : ∀ v H', Same H H' → LLf H H' v [[n]] → Q v H') : spLR_ vs H Q
def spLR : Sp := fun vs H Q E_ => spLR_ vs H Q
inductive spLE_ (CL : Addr) (vs : List V) (H : Hp) (Q : VK) : Prop where
  | mk (tl dx a b : Addr) (m : Nat) (A B : Rws) (h0_ : vs = [.ref tl, .ref a, .ref b]) (h1_ : H tl = some (.ins CL dx [("most", .int m)])) (h2_ : LL H a A) (h3_ : LL H b B) (h4_ : A.length ≤ 60) (h5_ : B.length ≤ 60) (h6_ : (∀ r ∈ A ++ B, r.length ≤ 500)) (h7_ : ∀ v H', Same H H' → LLf H H' v ((srt (A ++ B)).take m) → Q v H') : spLE_ CL vs H Q
def spLE (CL : Addr) : Sp := fun vs H Q E_ => spLE_ CL vs H Q
inductive spLB_ (CL : Addr) (vs : List V) (H : Hp) (Q : VK) : Prop where
  | mk (tl dx a b : Addr) (m : Nat) (A B : Rws) (h0_ : vs = [.ref tl, .ref a, .ref b]) (h1_ : H tl = some (.ins CL dx [("most", .int m)])) (h2_ : LL H a A) (h3_ : LL H b B) (h4_ : A.length ≤ 60) (h5_ : B.length ≤ 60) (h6_ : B.length ≤ m) (h7_ : SrR A) (h8_ : SrR B) (h9_ : (∀ r ∈ A, r.length ≤ 500)) (h10_ : (∀ r ∈ B, r.length ≤ 500)) (h11_ : ∀ v H', Same H H' → LLf H H' v ((srt (prs A B)).take m) → Q v H') : spLB_ CL vs H Q
def spLB (CL : Addr) : Sp := fun vs H Q E_ => spLB_ CL vs H Q

theorem comp_rw {K : PySem.W.Frag} {a : Addr} {ts : List Addr} {te : TE} {Q : VK} {H : Hp} {l : Addr} {τ : St} (j0 : Nat) (A : Rws) (g : List Int → List Int) (hs : SqL K H a (ts.map V.ref)) (hA : RwA H ts A) (hl : H l = none) (hτ : j0 < τ.length) (hz : ts.length ≤ 1000) (keep : St → Prop) (hk0 : keep τ) (hks : ∀ τ' v, keep τ' → keep (τ'.set j0 v))
    (ht : ∀ (τ' : St) (t : Addr) (r : List Int) (H' : Hp) (Rk : VK), keep τ' → τ'[j0]? = some (some (.ref t)) → r ∈ A → H t = rwO r → Same H H' → (∀ p H6, Same H' H6 → H' p = none → H6 p = rwO (g r) → Rk (.ref p) H6) → te τ' H' Rk)
    (hq : ∀ us H', (∀ u ∈ us, H u = none) → Same H H' → RwA H' us (A.map g) → H' l = some (.lst (us.map V.ref)) → Q (.ref l) H') : CompOk (Itl K a) (gName j0) tYes te Q l τ H := by
  refine comp_by ts.length (fun i ys τ' H2 => ∃ us : List Addr, ys = us.map V.ref ∧ us.length = i ∧ RwA H2 us ((A.take i).map g) ∧ (∀ u ∈ us, u ≠ l ∧ H u = none) ∧ j0 < τ'.length ∧ keep τ' ∧ Same H H2 ∧ H2 l = some (.lst ys)) ⟨[], rfl, rfl, rfl, (fun t z => nomatch z), hτ, hk0, Same.upd hl, upd_same⟩ ?_ ?_
  · rintro i ys τ' H2 N hi ⟨us, rfl, hu, hR, hne, hτ', hk', s, hll⟩ hN
    have gv := (gives_list hs i H2 s).1 (by rw [List.length_map]; exact hi)
    refine ⟨gv.1, fun x H3 hy => ?_⟩
    obtain ⟨rfl, hx⟩ := gv.2 x H3 hy
    rw [List.getElem?_map, List.getElem?_eq_getElem hi] at hx
    cases hx
    obtain ⟨r, hr1, hr2⟩ := hA.get (List.getElem?_eq_getElem hi)
    show te _ _ _
    refine ht _ ts[i] r _ _ (hks _ _ hk') (by rw [List.getElem?_set_self hτ']) (List.mem_of_getElem? hr1) hr2 s fun b H6 s6 nb hb => ?_
    have hl6 := s6 _ _ hll
    have nbl : b ≠ l := fun e => by rw [e, hll] at nb; cases nb
    have ne2 : ∀ u ∈ us ++ [b], u ≠ l ∧ H u = none := fun u z => by
      rcases List.mem_append.mp z with z | z
      · exact hne u z
      · rw [List.mem_singleton.mp z]
        exact ⟨nbl, s.free nb⟩
    refine ⟨hl6, by rw [List.length_map, hu, sizeLine_eq]; lia, hN _ _ _ ⟨us ++ [b], by rw [List.map_append]; rfl, by rw [List.length_append, hu]; rfl, ?_, ne2, by rw [List.length_set]; exact hτ', hks _ _ hk', (s.trans s6).put hl, upd_same⟩⟩
    refine RwA.up ?_ fun u z => (ne2 u z).1
    rw [List.take_add_one, hr1, List.map_append]
    exact (hR.same s6).app (RwA.one hb)
  · rintro ys τ' H2 ⟨us, rfl, hu, hR, hne, hτ', hk', s, hll⟩
    have st := (gives_list hs 0 H2 s).2
    rw [List.length_map] at st
    rw [hA.len, List.take_length] at hR
    exact ⟨st, hq us H2 (fun u z => (hne u z).2) s hR hll⟩
theorem ok_intsD (ns : List Int) : (D.lst (ns.map D.int)).ok = true := ok_lst fun d hd => by
  obtain ⟨i, _, rfl⟩ := List.mem_map.mp hd
  rfl
theorem dep_intsD (ns : List Int) : (D.lst (ns.map D.int)).dep ≤ 1 := dep_lst (n := 0) fun d hd => by
  obtain ⟨i, _, rfl⟩ := List.mem_map.mp hd
  exact Nat.le_refl 0
theorem eqDs_ints : ∀ x y : List Int, eqDs (x.map D.int) (y.map D.int) = decide (x = y)
  | [], [] => rfl
  | [], _ :: _ => rfl
  | _ :: _, [] => rfl
  | a :: x, b :: y => by
    show (eqD (.int a) (.int b) && eqDs (x.map D.int) (y.map D.int)) = _
    rw [eqDs_ints x y]
    show (decide (a = b) && decide (x = y)) = decide (a :: x = b :: y)
    simp [Bool.decide_and]
theorem eqD_ints (x y : List Int) : eqD (.lst (x.map D.int)) (.lst (y.map D.int)) = decide (x = y) := by rw [eqD_lst, eqDs_ints]
theorem us_one {H : Hp} {a : Addr} {x : List Int} {Q : VK} (ha : H a = some (.lst (x.map V.int))) (hx : ∀ n ∈ x, 0 ≤ n ∧ n < 60) (hl : x.length ≤ 120) {z : List Int} (hz : z.Pairwise (· < ·)) (hm : ∀ n, n ∈ z ↔ n ∈ x) (q : ∀ v H', Same H H' → UVf H H' (some z) v → Q v H') :
    Rd H a (.lst (x.map V.int)) ∧ x.length < 3999 ∧ (dedI x).length < 64 ∧ ∀ (l : Addr) (ns' : List Int), H l = none → ns'.Pairwise (· < ·) → (∀ m, m ∈ ns' ↔ m ∈ x) → Q (.ref l) (upd H l (.lst (ns'.map V.int))) := by
  have hd : (dedI x).length ≤ 60 := by
    have hp : (dedI x).Perm z := (List.perm_ext_iff_of_nodup (dedI_nodup x) (hz.imp fun h => Int.ne_of_lt h)).mpr fun n => dedI_mem.trans (hm n).symm
    rw [hp.length_eq]
    exact Rs.len ⟨hz, fun n h => hx n ((hm n).mp h)⟩
  refine ⟨.inl ha, by lia, by lia, fun l ns' hl' hr hm' => ?_⟩
  have e : ns' = z := rise_eq hr hz fun n => (hm' n).trans (hm n).symm
  rw [e]
  exact q _ _ (Same.upd hl') ⟨l, rfl, hl', upd_same⟩
theorem us_two {H : Hp} {a b : Addr} {x y : List Int} {Q : VK} (ha : H a = some (.lst (x.map V.int))) (hb : H b = some (.lst (y.map V.int))) (hx : Rs x) (hy : Rs y) (q : ∀ v H', Same H H' → UVf H H' (some (mrg x y)) v → Q v H') :
    rCat (.ref a) (.ref b) H fun x H1 => ∃ (c : Addr) (ks : List Int), [x] = [V.ref c] ∧ Rd H1 c (.lst (ks.map V.int)) ∧ ks.length < 3999 ∧ (dedI ks).length < 64 ∧ ∀ (l : Addr) (ns' : List Int), H1 l = none → ns'.Pairwise (· < ·) → (∀ m, m ∈ ns' ↔ m ∈ ks) → Q (.ref l) (upd H1 l (.lst (ns'.map V.int))) := by
  have l1 := hx.len
  have l2 := hy.len
  refine ⟨a, b, _, _, rfl, rfl, ha, hb, by rw [List.length_map, List.length_map, sizeLine_eq]; lia, fun p hp => ⟨p, x ++ y, rfl, us_one (by rw [List.map_append]; exact upd_same) (fun n z => (List.mem_append.mp z).elim (hx.2 n) (hy.2 n)) (by rw [List.length_append]; lia) (mrg_rs x y).1 (fun n => (mem_mrg hx hy).trans List.mem_append.symm) fun v H' s g => q v H' ((Same.upd hp).trans s) ?_⟩⟩
  obtain ⟨c, h1, h2, h3⟩ := g
  exact ⟨c, h1, (Same.upd hp).free h2, h3⟩
section
variable {P : Program} {w : World} {K : PySem.W.Frag} {mg : Str → Option Value} {base : Heap} {C : Adr}
theorem sc_Used_nothing : FnScope ["self"] ["self"] (defScope s_Used_nothing) := scU
theorem ok_Used_nothing {f : Addr} {fd : FuncData} (F : Fun K "nothing" "Used.nothing" s_Used_nothing f fd) (T : Txt K mg C) : FnOk P w K mg base CX0 1 f fd ["self"] (spSelf .non) := by
  refine F.ok sc_Used_nothing (fun vs H Q E h => ?_) (fun cdv A outer s H vs Q E hr h => ?_)
  · obtain ⟨s, rfl, _⟩ := h
    rfl
  · obtain ⟨s, rfl, q⟩ := h
    exact ⟨_, (pss_one (ps_ret pe_non)), q⟩
theorem sc_Used_blank : FnScope ["self"] ["self"] (defScope s_Used_blank) := scU
theorem ok_Used_blank {f : Addr} {fd : FuncData} (F : Fun K "blank" "Used.blank" s_Used_blank f fd) (T : Txt K mg C) : FnOk P w K mg base CX0 1 f fd ["self"] (spUB) := by
  refine F.ok sc_Used_blank (fun vs H Q E h => ?_) (fun cdv A outer s H vs Q E hr h => ?_)
  · obtain ⟨s, rfl, _⟩ := h
    rfl
  · obtain ⟨s, rfl, q⟩ := h
    exact ⟨_, (pss_one (ps_ret (pe_lst pa_nil))), line1000 (by decide), q⟩
theorem sc_Used_of_rule : FnScope ["self", "number", "worth"] ["self", "number", "worth"] (defScope s_Used_of_rule) := scU
theorem ok_Used_of_rule {f : Addr} {fd : FuncData} (F : Fun K "of_rule" "Used.of_rule" s_Used_of_rule f fd) (T : Txt K mg C) : FnOk P w K mg base CX0 1 f fd ["self", "number", "worth"] (spUR) := by
  refine F.ok sc_Used_of_rule (fun vs H Q E h => ?_) (fun cdv A outer s H vs Q E hr h => ?_)
  · obtain ⟨s, n, u, rfl, _⟩ := h
    rfl
  · obtain ⟨s, n, u, rfl, q⟩ := h
    exact ⟨_, (pss_one (ps_ret (pe_lst (pa1 (pv 1))))), _, rfl, line1000 (by show 1 ≤ 1000; decide), q⟩
theorem sc_Used_either : FnScope ["self", "one", "other"] ["self", "one", "other"] (defScope s_Used_either) := scU
theorem ok_Used_either {f : Addr} {fd : FuncData} (F : Fun K "either" "Used.either" s_Used_either f fd) (T : Txt K mg C) : FnOk P w K mg base CX0 1 f fd ["self", "one", "other"] (spU2 eiU) := by
  refine F.ok sc_Used_either (fun vs H Q E h => ?_) (fun cdv A outer s H vs Q E hr h => ?_)
  · obtain ⟨s, x, y, ox, oy, rfl, _⟩ := h
    rfl
  · obtain ⟨s, x, y, ox, oy, rfl, gx, gy, kx, ky, q⟩ := h
    refine ⟨_, (pss_cons (ps_if (PW.pt (pw_and (pt_cmpR op_isN (pv 1) pe_non (nomark _)) (pw_and1 (pt_cmpR op_isN (pv 2) pe_non (nomark _))))) (pss_one (ps_ret pe_non)) pss_nil)
      (pss_cons (ps_if (pt_cmpR op_isN (pv 1) pe_non (nomark _)) (pss_one (ps_ret (pe_srtSet rfl rfl T.z_sorted rfl T.z_set (pa1 (pv 2))))) pss_nil)
      (pss_cons (ps_if (pt_cmpR op_isN (pv 2) pe_non (nomark _)) (pss_one (ps_ret (pe_srtSet rfl rfl T.z_sorted rfl T.z_set (pa1 (pv 1))))) pss_nil)
      (pss_one (ps_ret (pe_srtSet rfl rfl T.z_sorted rfl T.z_set (pa1 (pe_op op_cat (pv 1) (pv 2))))))))), ?_⟩
    refine ⟨_, rfl, rfl, _, rfl, ?_⟩
    cases ox with
    | none =>
      cases gx
      refine iteT ⟨_, rfl, rfl, _, rfl, ?_⟩
      cases oy with
      | none =>
        cases gy
        exact iteT (q _ _ (Same.refl H) rfl)
      | some y =>
        obtain ⟨b, rfl, hb⟩ := gy
        have hy := ky y rfl
        exact iteF ⟨_, rfl, rfl, _, rfl, iteT ⟨_, rfl, b, y, rfl, us_one hb hy.2 (by have := hy.len; lia) hy.1 (fun _ => Iff.rfl) q⟩⟩
    | some x =>
      obtain ⟨a, rfl, ha⟩ := gx
      have hx := kx x rfl
      refine iteF ⟨_, rfl, rfl, _, rfl, iteF ⟨_, rfl, rfl, _, rfl, ?_⟩⟩
      cases oy with
      | none =>
        cases gy
        exact iteT ⟨_, rfl, a, x, rfl, us_one ha hx.2 (by have := hx.len; lia) hx.1 (fun _ => Iff.rfl) q⟩
      | some y =>
        obtain ⟨b, rfl, hb⟩ := gy
        exact iteF ⟨_, rfl, _, rfl, us_two ha hb hx (ky y rfl) q⟩
theorem sc_Used_both : FnScope ["self", "one", "other"] ["self", "one", "other"] (defScope s_Used_both) := scU
theorem ok_Used_both {f : Addr} {fd : FuncData} (F : Fun K "both" "Used.both" s_Used_both f fd) (T : Txt K mg C) : FnOk P w K mg base CX0 1 f fd ["self", "one", "other"] (spU2 boU) := by
  refine F.ok sc_Used_both (fun vs H Q E h => ?_) (fun cdv A outer s H vs Q E hr h => ?_)
  · obtain ⟨s, x, y, ox, oy, rfl, _⟩ := h
    rfl
  · obtain ⟨s, x, y, ox, oy, rfl, gx, gy, kx, ky, q⟩ := h
    refine ⟨_, (pss_cons (ps_if (PW.pt (pw_or (pt_cmpR op_isN (pv 1) pe_non (nomark _)) (pw_or1 (pt_cmpR op_isN (pv 2) pe_non (nomark _))))) (pss_one (ps_ret pe_non)) pss_nil)
      (pss_one (ps_ret (pe_srtSet rfl rfl T.z_sorted rfl T.z_set (pa1 (pe_op op_cat (pv 1) (pv 2))))))), ?_⟩
    refine ⟨_, rfl, rfl, _, rfl, ?_⟩
    cases ox with
    | none =>
      cases gx
      exact iteT (iteT (q _ _ (Same.refl H) (by cases oy <;> rfl)))
    | some x =>
      obtain ⟨a, rfl, ha⟩ := gx
      refine iteF ⟨_, rfl, rfl, _, rfl, ?_⟩
      cases oy with
      | none =>
        cases gy
        exact iteT (q _ _ (Same.refl H) rfl)
      | some y =>
        obtain ⟨b, rfl, hb⟩ := gy
        exact iteF ⟨_, rfl, _, rfl, us_two ha hb (kx x rfl) (ky y rfl) q⟩
theorem sc_begins_with : FnScope ["row", "beginning"] ["row", "beginning"] (defScope s_begins_with) := scU
theorem ok_begins_with {f : Addr} {fd : FuncData} (F : Fun K "begins_with" "begins_with" s_begins_with f fd) (T : Txt K mg C) : FnOk P w K mg base CX0 1 f fd ["row", "beginning"] (spBegins) := by
  refine F.ok sc_begins_with (fun vs H Q E h => ?_) (fun cdv A outer s H vs Q E hr h => ?_)
  · obtain ⟨a, b, x, y, rfl, _⟩ := h
    rfl
  · obtain ⟨a, b, x, y, rfl, ha, hb, q⟩ := h
    have hu := hu_of hr
    have hU := hr.units
    refine ⟨_, (pss_one (ps_ret (pe_cmpR (op_eq_deep K rfl hU) (pe_slice (sl_listK K rfl) (pv 0) po_none (po_some (lnU K T.z_len (pv 1)))) (pv 1) (nomark _)))), ?_⟩
    refine ⟨_, rfl, _, rfl, b, _, rfl, .inl (SqL.of hb), _, rfl, a, _, rfl, SqL.of ha, fun p hp => ?_⟩
    rw [List.length_map, cut_take]
    refine ⟨_, rfl, .lst ((x.take y.length).map D.int), .lst (y.map D.int), .lst (.inl upd_same) (Dens.ints _), .lst (.inl (Same.upd hp _ _ hb)) (Dens.ints y), ok_intsD _, ok_intsD _, Nat.le_trans (dep_intsD _) (by decide), ?_⟩
    rw [eqD_ints, decide_eq_decide.mpr pre_iff]
    exact q _ (Same.upd hp)
theorem sc_group_from : FnScope ["rows", "place", "group", "row"] ["rows", "place"] (defScope s_group_from) := scU
theorem ok_group_from {f : Addr} {fd : FuncData} (F : Fun K "group_from" "group_from" s_group_from f fd) (T : Txt K mg C) (U_begins_with : Used P w K mg CX0 1 "begins_with" ["row", "beginning"] (spBegins)) : FnOk P w K mg base CX0 2 f fd ["rows", "place"] (spGroup) := by
  refine F.ok sc_group_from (fun vs H Q E h => ?_) (fun cdv A outer s H vs Q E hr h => ?_)
  · obtain ⟨a, p, ts, B, rfl, _⟩ := h
    rfl
  · obtain ⟨a, p, ts, B, rfl, ha, hB, hp, h1000, q⟩ := h
    have hu := hu_of hr
    have hU := hr.units
    refine qex ?_
    refine ⟨_, (qss_cons ⟨(psU 2 sc_group_from (pe_lst (pa1 (ixL K (pv 0) (pv 1)))))⟩
      (qss_cons ⟨(pfU (pi_listK K rfl (pe_slice (sl_listK K rfl) (pv 0) (po_some (pe_op op_add (pv 1) pe_int)) po_none)) (pgU 3 sc_group_from) (pss_cons (ps_if (pt_not (pt_val (pcU U_begins_with hr pass0 (pa_cons (pv 3) (pa1 (ixL K (pv 2) pe_int)))))) (pss_one ps_break) pss_nil)
      (pss_one (ps_expr (apU K (pv 2) (pv 3))))))⟩
      (qss_one ⟨(ps_ret (pv 2))⟩))), ?_⟩
    have hix : (ts.map V.ref)[p]? = some (.ref ts[p]) := by rw [List.getElem?_map, List.getElem?_eq_getElem hp]; rfl
    obtain ⟨f, hf1, hf2⟩ := hB.get (List.getElem?_eq_getElem hp)
    refine ⟨_, rfl, _, rfl, a, _, p, _, rfl, rfl, SqL.of ha, atI_nat hix, line1000 (by show 1 ≤ 1000; decide), fun l hl => ?_⟩
    obtain ⟨G1, e1, s1, hl1⟩ := newG (.lst [.ref ts[p]]) hl
    rw [e1]
    dsimp only [gName]
    refine ⟨_, rfl, _, rfl, _, _, rfl, rfl, _, rfl, a, _, rfl, SqL.of (s1 _ _ ha), fun b hb => ?_⟩
    rw [show ((p : Int) + 1) = ((p + 1 : Nat) : Int) from rfl, cut_drop]
    obtain ⟨G2, e2, s2, hb2⟩ := newG (.lst ((ts.drop (p + 1)).map V.ref)) hb
    rw [e2]
    have hl2 := s2 _ _ hl1
    have nlb : l ≠ b := ne_of_none hl1 hb
    have tk : ∀ i, i < (ts.drop (p + 1)).length → (ts.drop p).take (i + 2) = (ts.drop p).take (i + 1) ++ [(ts.drop (p + 1))[i]!] := fun i hi => by
      rw [List.take_add_one (i := i + 1), List.getElem?_drop, List.getElem!_eq_getElem?_getD, List.getElem?_drop, show p + (i + 1) = p + 1 + i by lia]
      rw [List.length_drop] at hi
      rw [List.getElem?_eq_getElem (show p + 1 + i < ts.length by lia)]
      rfl
    refine ⟨b, rfl, ⟨_, SqL.of hb2⟩, for_list (K := K) (a := b) (xs := (ts.drop (p + 1)).map V.ref) (fun i σ G => Same H G ∧ G b = some (.lst ((ts.drop (p + 1)).map V.ref)) ∧ ∃ v, σ = [some (.ref a), some (.int p), some (.ref l), v] ∧ G l = some (.lst (((ts.drop p).take (i + 1)).map V.ref)) ∧ ∀ g ∈ (B.drop (p + 1)).take i, f <+: g)
      ⟨s1.trans s2, hb2, none, rfl, by rw [List.drop_eq_getElem_cons hp]; exact hl2, fun _ h => by rw [List.take_zero] at h; exact nomatch h⟩ ?_ ?_ ?_⟩
    · rintro i σ G _ ⟨s, gb, _⟩
      exact SqL.of gb
    · rintro i v σ G hi ⟨s, gb, v3, rfl, gl, gm⟩
      rw [List.getElem?_map] at hi
      obtain ⟨t, hti, rfl⟩ := Option.map_eq_some_iff.mp hi
      have hi2 := (List.getElem?_eq_some_iff.mp hti).1
      obtain ⟨r, hr1, hr2⟩ := (hB.drop (p + 1)).get hti
      have h0 : (((ts.drop p).take (i + 1)).map V.ref)[0]? = some (.ref ts[p]) := by rw [List.drop_eq_getElem_cons hp]; rfl
      refine ⟨_, rfl, _, rfl, l, _, 0, _, rfl, rfl, SqL.of gl, atI_nat (j := 0) h0, t, ts[p], r, f, rfl, s _ _ hr2, s _ _ hf2, fun G7 s7 => ⟨_, rfl, ?_⟩⟩
      rw [List.length_drop] at hi2
      by_cases hc : f <+: r
      · rw [decide_eq_true hc]
        refine iteF ⟨_, rfl, .inl ⟨rfl, _, SqL.of (s7 _ _ gl)⟩, _, rfl, l, _, _, rfl, rfl, s7 _ _ gl, ?_, (s.trans s7).put hl, ?_, _, rfl, ?_, ?_⟩
        · rw [List.length_map, List.length_take, sizeLine_eq]
          lia
        · rw [upd_ne (Ne.symm nlb)]
          exact s7 _ _ gb
        · rw [upd_same, tk i (by rw [List.length_drop]; exact hi2), List.map_append, List.getElem!_eq_getElem?_getD, hti]
          rfl
        · intro g hg
          rw [List.take_add_one, hr1] at hg
          rcases List.mem_append.mp hg with z | z
          · exact gm g z
          · rw [List.mem_singleton.mp z]
            exact hc
      · rw [decide_eq_false hc]
        refine iteT ⟨_, rfl, q l i f G7 (s.trans s7) (s7 _ _ gl) (by lia) hf1 gm fun r' hr' => ?_⟩
        rw [List.head?_drop, ← List.getElem?_drop, hr1] at hr'
        cases hr'
        exact hc
    · rintro σ G ⟨s, gb, v3, rfl, gl, gm⟩
      rw [List.length_map, List.length_drop] at gl gm
      refine ⟨_, rfl, q l (ts.length - (p + 1)) f G s gl (by lia) hf1 gm fun r' hr' => ?_⟩
      rw [List.drop_eq_nil_of_le (by rw [← hB.len]; lia)] at hr'
      cases hr'
theorem sc_longer_rows : FnScope ["group", "behind", "longer", "row"] ["group", "behind"] (defScope s_longer_rows) := scU
theorem ok_longer_rows {f : Addr} {fd : FuncData} (F : Fun K "longer_rows" "longer_rows" s_longer_rows f fd) (T : Txt K mg C) : FnOk P w K mg base CX0 1 f fd ["group", "behind"] (spLonger) := by
  refine F.ok sc_longer_rows (fun vs H Q E h => ?_) (fun cdv A outer s H vs Q E hr h => ?_)
  · obtain ⟨a, b, B, D, rfl, _⟩ := h
    rfl
  · obtain ⟨a, b, B, D, rfl, ⟨gs, ha, hB⟩, ⟨bs, hb, hD⟩, lB, lD, r5, d5, q⟩ := h
    have hu := hu_of hr
    have hU := hr.units
    refine qex ?_
    refine ⟨_, (qss_cons (qsU 2 sc_longer_rows (qe_lst qa_nil))
      (qss_cons ⟨(pfU (pi_listK K rfl (pv 0)) (pgU 3 sc_longer_rows) (pss_one (ps_expr (pe_bmK K rfl PySem.F.plainAttrs_list PySem.F.slot_list_extend PySem.F.type_list_extend mt_extend (pv 2) (pa1 (pe_comp (N := ["more", "row"]) (ρ := [none, some 3]) rfl (CompScope.closes ["group", "behind", "longer", "row"] (defScope s_longer_rows).names rfl rfl rfl rfl (by decide +kernel) (by decide +kernel) (fun x h => cell_has h) (by decide +kernel) rfl (by decide +kernel)) (pi_listK K rfl (pv 1)) (fun _ _ _ _ _ => (pg_name (i := 0) nd_K42a_more_row rfl (Or.inl rfl) (.inr rfl))) (fun _ _ _ _ _ => pts_nil) (fun _ _ _ _ _ => (pe_op op_cat (pv 1) (pv 0)))))))))⟩
      (qss_one ⟨(ps_ret (pe_callB (call_sortedLx hU) (by rfl) T.z_sorted PyProof.Rows.Boot.«sorted» (pa1 (pv 2))))⟩))), ?_⟩
    refine ⟨line1000 (by decide), fun l hl => ?_⟩
    obtain ⟨G1, e1, s1, hl1⟩ := newG (.lst []) hl
    rw [e1]
    have lg := hB.len
    have ld := hD.len
    dsimp only [gName]
    refine ⟨_, rfl, a, rfl, ⟨_, SqL.of (s1 _ _ ha)⟩, for_list (K := K) (a := a) (xs := gs.map V.ref) (fun i σ G => Same H G ∧ ∃ us v, σ = [some (.ref a), some (.ref b), some (.ref l), v] ∧ G l = some (.lst (us.map V.ref)) ∧ us.length ≤ i * 60 ∧ (∀ u ∈ us, u ≠ l ∧ H u = none) ∧ RwA G us (prs (B.take i) D))
      ⟨s1, [], none, rfl, hl1, Nat.zero_le _, (fun t z => nomatch z), rfl⟩ ?_ ?_ ?_⟩
    · rintro i σ G _ ⟨s, _⟩
      exact SqL.of (s _ _ ha)
    · rintro i v σ G hi ⟨s, us, v3, rfl, gl, glen, gne, gR⟩
      rw [List.getElem?_map] at hi
      obtain ⟨t, hti, rfl⟩ := Option.map_eq_some_iff.mp hi
      have hig : i < gs.length := (List.getElem?_eq_some_iff.mp hti).1
      obtain ⟨row, rw1, rw2⟩ := hB.get hti
      have row5 := r5 row (List.mem_of_getElem? rw1)
      refine ⟨_, rfl, .inl ⟨rfl, _, SqL.of gl⟩, _, rfl, b, rfl, ⟨_, SqL.of (s _ _ hb)⟩, fun c hc => comp_rw 0 D (fun r => row ++ r) (SqL.of (s _ _ hb)) (hD.same s) hc (by show 0 < 2; decide) (by lia) (fun τ => τ[1]? = some (some (.ref t))) rfl (fun τ' v h => by rw [List.getElem?_set_ne (by decide)]; exact h) ?_ ?_⟩
      · intro τ' t2 r H' Rk hk hx hrD hr2 s' kk
        have := d5 r hrD
        exact ⟨_, hk, _, hx, t, t2, _, _, rfl, rfl, s' _ _ (s _ _ rw2), s' _ _ hr2, by rw [List.length_map, List.length_map, sizeLine_eq]; lia, fun p hp => kk p _ (Same.upd hp) hp (by rw [upd_same, ← List.map_append])⟩
      · intro ws H' hnew s' hR' hc'
        have hw := hR'.len
        rw [List.length_map] at hw
        refine ⟨l, c, _, _, rfl, rfl, s' _ _ gl, hc', by rw [List.length_map, List.length_map, sizeLine_eq]; lia, ?_⟩
        have ne2 : ∀ u ∈ us ++ ws, u ≠ l ∧ H u = none := fun u z => by
          rcases List.mem_append.mp z with z | z
          · exact gne u z
          · exact ⟨Ne.symm (ne_of_none gl (hnew u z)), s.free (hnew u z)⟩
        refine ⟨(s.trans s').put hl, us ++ ws, _, rfl, by rw [upd_same, List.map_append], by rw [List.length_append]; lia, ne2, RwA.up ?_ fun u z => (ne2 u z).1⟩
        rw [List.take_add_one, rw1, prs_app]
        refine (gR.same s').app ?_
        show RwA H' ws (List.flatten [D.map fun b => row ++ b])
        rw [List.flatten_singleton]
        exact hR'
    · rintro σ G ⟨s, us, v3, rfl, gl, glen, gne, gR⟩
      rw [List.length_map, lg, List.take_length] at gR
      refine ⟨_, rfl, l, us, _, rfl, gl, gR, fun l2 ts' nl2 hp hR2 => q _ _ (s.trans (Same.upd nl2)) ⟨l2, ts', rfl, s.free nl2, upd_same, hR2.same (Same.upd nl2), fun t z => (gne t (hp.mem_iff.mp z)).2⟩⟩
end
end FR


set_option linter.all false
set_option Elab.async false
set_option maxRecDepth 100000
set_option maxHeartbeats 4000000
namespace FR
open PySem L2
theorem nd_K42b_row : (["row"] : List Str).Nodup := by decide +kernel

inductive LbI (H : Hp) (tl a b la lb lr : Addr) (us1 us2 : List Addr) (A B : Rws) (m : Nat) (σ : St) (G : Hp) : Prop
  | mk (pl : Nat) (us : List Addr) (v : Option V) : Same H G → G la = some (.lst (us1.map V.ref)) → G lb = some (.lst (us2.map V.ref)) → σ = [some (.ref tl), some (.ref a), some (.ref b), some (.ref la), some (.ref lb), some (.ref lr), some (.int pl), v] → m = us1.length - pl → pl ≤ us1.length → G lr = some (.lst (us.map V.ref)) → us.length ≤ pl * 60 → (∀ u ∈ us, u ≠ lr ∧ H u = none) → RwA G us (srt (prs (A.take pl) B)) → Bnd (A.take pl) (A.drop pl) → LbI H tl a b la lb lr us1 us2 A B m σ G
theorem LLf.of {H H' : Hp} {l : Addr} {ts : List Addr} {A : Rws} (nl : H l = none) (hl : H' l = some (.lst (ts.map V.ref))) (hR : RwA H' ts A) (hn : ∀ t ∈ ts, H t = none) : LLf H H' (.ref l) A := ⟨l, ts, rfl, nl, hl, hR, hn⟩
theorem LLf.back {H H1 H' : Hp} {v : V} {A : Rws} (h : LLf H1 H' v A) (s : Same H H1) : LLf H H' v A := by
  obtain ⟨l, ts, rfl, h1, h2, h3, h4⟩ := h
  exact ⟨l, ts, rfl, s.free h1, h2, h3, fun t z => s.free (h4 t z)⟩
theorem take_srt {A B : Rws} {n m : Nat} (h : Bnd (A.take n) (A.drop n)) (hm : m ≤ (srt (prs (A.take n) B)).length) : (srt (prs A B)).take m = (srt (prs (A.take n) B)).take m := by
  have := srt_prs (B := B) h
  rw [List.take_append_drop] at this
  rw [this, List.take_append_of_le_length hm]
theorem srt_nil : srt [] = [] := List.eq_nil_of_length_eq_zero (srt_len [])
theorem prs_len (A B : Rws) : (prs A B).length = A.length * B.length := by
  induction A with
  | nil => rw [show prs [] B = [] from rfl, List.length_nil, Nat.zero_mul]
  | cons a A ih =>
    show ((B.map fun b => a ++ b) ++ prs A B).length = _
    rw [List.length_append, List.length_map, ih, List.length_cons, Nat.add_mul, Nat.one_mul, Nat.add_comm]
theorem _root_.L2.RwA.back {H G : Hp} {us : List Addr} {B : Rws} (h : RwA G us B) (s : Same H G) (hd : ∀ t ∈ us, ∃ o, H t = some o) : RwA H us B := by
  show us.map H = _
  rw [← show us.map G = _ from h]
  refine List.map_congr_left fun t z => ?_
  obtain ⟨o, e⟩ := hd t z
  rw [e, s _ _ e]
section
variable {P : Program} {w : World} {K : PySem.W.Frag} {mg : Str → Option Value} {base : Heap} {C : Adr}
theorem sc_Listed___init__ : FnScope ["self", "many"] ["self", "many"] (defScope s_Listed___init__) := scU
theorem ok_Listed___init__ {f : Addr} {fd : FuncData} (F : FunD K "__init__" "Listed.__init__" s_Listed___init__ f fd) (T : Txt K mg C) : FnOk P w K mg base CX0 1 f fd ["self", "many"] (spLInit C.Listed) := by
  refine F.ok sc_Listed___init__ (fun vs H Q E h => ?_) (fun cdv A outer s H vs Q E hr h => ?_)
  · obtain ⟨x, dx, m, rfl, _⟩ := h
    rfl
  · obtain ⟨x, dx, m, rfl, hx, q⟩ := h
    refine ⟨_, (pss_one (sfU K (pv 0) (pv 1))), ?_⟩
    exact ⟨_, rfl, _, rfl, x, C.Listed, dx, [], rfl, hx, T.cl_Listed, T.na_Listed_most, by decide, q⟩
theorem sc_Listed_nothing : FnScope ["self"] ["self"] (defScope s_Listed_nothing) := scU
theorem ok_Listed_nothing {f : Addr} {fd : FuncData} (F : Fun K "nothing" "Listed.nothing" s_Listed_nothing f fd) (T : Txt K mg C) : FnOk P w K mg base CX0 1 f fd ["self"] (spLN []) := by
  refine F.ok sc_Listed_nothing (fun vs H Q E h => ?_) (fun cdv A outer s H vs Q E hr h => ?_)
  · obtain ⟨s, rfl, _⟩ := h
    rfl
  · obtain ⟨s, rfl, q⟩ := h
    exact ⟨_, (pss_one (ps_ret (pe_lst pa_nil))), line1000 (by decide), fun l hl => q _ _ (Same.upd hl) (.of (ts := []) hl upd_same rfl fun _ z => nomatch z)⟩
theorem sc_Listed_blank : FnScope ["self"] ["self"] (defScope s_Listed_blank) := scU
theorem ok_Listed_blank {f : Addr} {fd : FuncData} (F : Fun K "blank" "Listed.blank" s_Listed_blank f fd) (T : Txt K mg C) : FnOk P w K mg base CX0 1 f fd ["self"] (spLN [[]]) := by
  refine F.ok sc_Listed_blank (fun vs H Q E h => ?_) (fun cdv A outer s H vs Q E hr h => ?_)
  · obtain ⟨s, rfl, _⟩ := h
    rfl
  · obtain ⟨s, rfl, q⟩ := h
    exact ⟨_, (pss_one (ps_ret (pe_lst (pa1 (pe_lst pa_nil))))), line1000 (by decide), fun e he => ⟨line1000 (by show 1 ≤ 1000; decide), fun l hl => q _ _ ((Same.upd he).trans (Same.upd hl)) (.of (ts := [e]) ((Same.upd he).free hl) upd_same (RwA.one (Same.upd hl _ _ upd_same)) fun t z => by rw [List.mem_singleton.mp z]; exact he)⟩⟩
theorem sc_Listed_of_rule : FnScope ["self", "number", "worth"] ["self", "number", "worth"] (defScope s_Listed_of_rule) := scU
theorem ok_Listed_of_rule {f : Addr} {fd : FuncData} (F : Fun K "of_rule" "Listed.of_rule" s_Listed_of_rule f fd) (T : Txt K mg C) : FnOk P w K mg base CX0 1 f fd ["self", "number", "worth"] (spLR) := by
  refine F.ok sc_Listed_of_rule (fun vs H Q E h => ?_) (fun cdv A outer s H vs Q E hr h => ?_)
  · obtain ⟨s, n, u, rfl, _⟩ := h
    rfl
  · obtain ⟨s, n, u, rfl, q⟩ := h
    exact ⟨_, (pss_one (ps_ret (pe_lst (pa1 (pe_lst (pa1 (pv 1))))))), _, rfl, line1000 (by show 1 ≤ 1000; decide), fun e he => ⟨line1000 (by show 1 ≤ 1000; decide), fun l hl => q _ _ ((Same.upd he).trans (Same.upd hl)) (.of (ts := [e]) ((Same.upd he).free hl) upd_same (RwA.one (Same.upd hl _ _ upd_same)) fun t z => by rw [List.mem_singleton.mp z]; exact he)⟩⟩
theorem sc_Listed_either : FnScope ["self", "one", "other"] ["self", "one", "other"] (defScope s_Listed_either) := scU
theorem ok_Listed_either {f : Addr} {fd : FuncData} (F : Fun K "either" "Listed.either" s_Listed_either f fd) (T : Txt K mg C) : FnOk P w K mg base CX0 1 f fd ["self", "one", "other"] (spLE C.Listed) := by
  refine F.ok sc_Listed_either (fun vs H Q E h => ?_) (fun cdv A outer s H vs Q E hr h => ?_)
  · obtain ⟨tl, dx, a, b, m, A, B, rfl, _⟩ := h
    rfl
  · obtain ⟨tl, dx, a, b, m, A, B, rfl, htl, ⟨ts1, ha, hA⟩, ⟨ts2, hb, hB⟩, lA, lB, h5, q⟩ := h
    have hu := hu_of hr
    have hU := hr.units
    refine qex ?_
    refine ⟨_, (qss_one ⟨(ps_ret (pe_comp (N := ["row"]) (ρ := [none]) (cl := []) rfl cpU (pi_listK K rfl (pe_slice (sl_listK K rfl) (pe_callB (call_sortedLx hU) (by rfl) T.z_sorted PyProof.Rows.Boot.«sorted» (pa1 (pe_op op_cat (pv 1) (pv 2)))) po_none (po_some (flU K (pv 0))))) (fun _ _ _ _ _ => (pg_name (i := 0) nd_K42b_row rfl (Or.inl rfl) (.inr rfl))) (fun _ _ _ _ _ => pts_nil) (fun _ _ _ _ _ => (pe_callTy (call_list_ofK K rfl) (by rfl) T.z_list PyProof.Rows.Boot.«list» (pa1 (pv 0))))))⟩), ?_⟩
    have l1 := hA.len
    have l2 := hB.len
    refine ⟨_, rfl, _, rfl, a, b, _, _, rfl, rfl, ha, hb, by rw [List.length_map, List.length_map, sizeLine_eq]; lia, fun p hp => ?_⟩
    obtain ⟨G1, e1, s1, hp1⟩ := newG (.lst (ts1.map V.ref ++ ts2.map V.ref)) hp
    rw [e1]
    refine ⟨p, ts1 ++ ts2, A ++ B, rfl, by rw [hp1, List.map_append], (hA.same s1).app (hB.same s1), fun c ts' nc hpm hR => ?_⟩
    obtain ⟨G2, e2, s2, hc2⟩ := newG (.lst (ts'.map V.ref)) nc
    rw [e2]
    have s12 := s1.trans s2
    refine ⟨_, rfl, tl, C.Listed, dx, [("most", .int m)], .int m, rfl, s12 _ _ htl, T.cl_Listed, T.na_Listed_most, rfl, m, rfl, c, _, rfl, SqL.of hc2, fun d nd => ?_⟩
    rw [cut_take]
    obtain ⟨G3, e3, s3, hd3⟩ := newG (.lst ((ts'.take m).map V.ref)) nd
    rw [e3]
    have hR3 := ((hR.same (s2.trans s3)).take m)
    have l3 := hpm.length_eq
    rw [List.length_append] at l3
    refine ⟨d, rfl, ⟨_, SqL.of hd3⟩, fun e ne => comp_rw 0 _ id (SqL.of hd3) hR3 ne (by show 0 < 1; decide) (by rw [List.length_take]; lia) (fun _ => True) trivial (fun _ _ _ => trivial) ?_ ?_⟩
    · intro τ' t r H' Rk _ hx hrA hr2 s' kk
      exact ⟨_, hx, t, _, rfl, .inl (SqL.of (s' _ _ hr2)), fun l hl => kk l _ (Same.upd hl) hl upd_same⟩
    · intro us H' hn s' hR' hl'
      rw [List.map_id] at hR'
      exact q _ _ ((s12.trans s3).trans s') (.of ((s12.trans s3).free ne) hl' hR' fun t z => (s12.trans s3).free (hn t z))
theorem sc_Listed_both : FnScope ["self", "one", "other", "ahead", "behind", "rows", "place", "group"] ["self", "one", "other"] (defScope s_Listed_both) := scU
theorem ok_Listed_both {f : Addr} {fd : FuncData} (F : Fun K "both" "Listed.both" s_Listed_both f fd) (T : Txt K mg C) (U_group_from : Used P w K mg CX0 2 "group_from" ["rows", "place"] (spGroup)) (U_longer_rows : Used P w K mg CX0 1 "longer_rows" ["group", "behind"] (spLonger)) : FnOk P w K mg base CX0 3 f fd ["self", "one", "other"] (spLB C.Listed) := by
  refine F.ok sc_Listed_both (fun vs H Q E h => ?_) (fun cdv A outer s H vs Q E hr h => ?_)
  · obtain ⟨tl, dx, a, b, m, A, B, rfl, _⟩ := h
    rfl
  · obtain ⟨tl, dx, a, b, m, A, B, rfl, htl, ⟨ts1, ha, hA⟩, ⟨ts2, hb, hB⟩, lA, lB, lBm, sA, sB, A5, B5, q⟩ := h
    have hu := hu_of hr
    have hU := hr.units
    refine qex ?_
    refine ⟨_, (qss_cons ⟨(psU 3 sc_Listed_both (pe_callB (call_sortedLx hU) (by rfl) T.z_sorted PyProof.Rows.Boot.«sorted» (pa1 (pv 1))))⟩
      (qss_cons ⟨(psU 4 sc_Listed_both (pe_slice (sl_listK K rfl) (pe_callB (call_sortedLx hU) (by rfl) T.z_sorted PyProof.Rows.Boot.«sorted» (pa1 (pv 2))) po_none (po_some (flU K (pv 0)))))⟩
      (qss_cons (qsU 5 sc_Listed_both (qe_lst qa_nil))
      (qss_cons (qsU 6 sc_Listed_both qe_int)
      (qss_cons ⟨(ps_while PassesOwn.never (PW.pt (pw_and (pt_cmpR op_lt (pv 6) (lnU K T.z_len (pv 3)) (nomark _)) (pw_and1 (pt_cmpR op_lt (lnU K T.z_len (pv 5)) (flU K (pv 0)) (nomark _))))) (pss_cons (psU 7 sc_Listed_both (pcU U_group_from hr pass0 (pa_cons (pv 3) (pa1 (pv 6)))))
      (pss_cons (ps_aug (i := 6) sc_Listed_both.nd rfl (Or.inl rfl) (lnU K T.z_len (pv 7)) ip_add)
      (pss_one (ps_expr (pe_bmK K rfl PySem.F.plainAttrs_list PySem.F.slot_list_extend PySem.F.type_list_extend mt_extend (pv 5) (pa1 (pcU U_longer_rows hr pass0 (pa_cons (pv 7) (pa1 (pv 4)))))))))))⟩
      (qss_one ⟨(ps_ret (pe_slice (sl_listK K rfl) (pv 5) po_none (po_some (flU K (pv 0)))))⟩)))))), ?_⟩
    have l1 := hA.len
    have l2 := hB.len
    refine ⟨_, rfl, a, ts1, A, rfl, ha, hA, fun la us1 nla hp1 hR1 => ?_⟩
    rw [sA.srt] at hR1
    obtain ⟨G1, e1, s1, h1⟩ := newG (.lst (us1.map V.ref)) nla
    rw [e1]
    dsimp only [gName]
    refine ⟨_, rfl, b, ts2, B, rfl, s1 _ _ hb, hB.same s1, fun lb0 us2 nlb0 hp2 hR2 => ?_⟩
    rw [sB.srt] at hR2
    replace hR2 := hR2.back s1 fun t z => by
      obtain ⟨r, _, e⟩ := hB.row (hp2.mem_iff.mp z)
      exact ⟨_, e⟩
    obtain ⟨G2, e2, s2, h2⟩ := newG (.lst (us2.map V.ref)) nlb0
    rw [e2]
    have s12 := s1.trans s2
    refine ⟨_, rfl, tl, C.Listed, dx, [("most", .int m)], .int m, rfl, s12 _ _ htl, T.cl_Listed, T.na_Listed_most, rfl, m, rfl, lb0, _, rfl, SqL.of h2, fun lb nlb => ?_⟩
    rw [cut_take, List.take_of_length_le (by rw [hp2.length_eq]; lia)]
    obtain ⟨G3, e3, s3, h3⟩ := newG (.lst (us2.map V.ref)) nlb
    rw [e3]
    dsimp only [gName]
    refine ⟨line1000 (by decide), fun lr nlr => ?_⟩
    obtain ⟨G4, e4, s4, h4⟩ := newG (.lst []) nlr
    rw [e4]
    have s14 := (s12.trans s3).trans s4
    have nrH : H lr = none := (s12.trans s3).free nlr
    have hla := s4 _ _ (s3 _ _ (s2 _ _ h1))
    have hlb := s4 _ _ h3
    have nar : la ≠ lr := ne_of_none (s3 _ _ (s2 _ _ h1)) nlr
    have nbr : lb ≠ lr := ne_of_none h3 nlr
    have lus : us1.length = A.length := hR1.len
    dsimp only [gName]
    refine ⟨LbI H tl a b la lb lr us1 us2 A B, ⟨_, .mk 0 [] none s14 hla hlb rfl rfl (Nat.zero_le _) h4 (Nat.zero_le _) (fun t z => nomatch z) (by show RwA G4 [] (srt []); rw [srt_nil]; rfl) (bnd_nil _)⟩, ?_⟩
    rintro k σ G ⟨pl, us, v7, s, gla, glb, rfl, rfl, hpl, glr, hus, hne, hR, hbd⟩
    refine ⟨_, rfl, _, rfl, la, _, rfl, .inl (SqL.of gla), _, _, rfl, rfl, _, rfl, ?_⟩
    rw [List.length_map]
    have lR := hR.len
    have fin : (srt (prs A B)).take m = (srt (prs (A.take pl) B)).take m → ∀ l, G l = none → Q (.ref l) (upd G l (.lst (cutV (us.map V.ref) none (some (m : Int))))) := fun e l hl => by
      rw [cut_take]
      exact q _ _ (s.trans (Same.upd hl)) (.of (s.free hl) upd_same (by rw [e]; exact (hR.take m).same (Same.upd hl)) fun t z => (hne t (List.mem_of_mem_take z)).2)
    by_cases hc : pl < us1.length
    · rw [decide_eq_true (show (pl : Int) < (us1.length : Int) by lia)]
      refine iteT ⟨_, rfl, lr, _, rfl, .inl (SqL.of glr), _, rfl, tl, C.Listed, dx, [("most", .int m)], .int m, rfl, s _ _ htl, T.cl_Listed, T.na_Listed_most, rfl, _, _, rfl, rfl, _, rfl, ?_⟩
      rw [List.length_map]
      by_cases hd : us.length < m
      · rw [decide_eq_true (show (us.length : Int) < (m : Int) by lia)]
        refine iteT ⟨fun σ' G' => ∃ m', m' < us1.length - pl ∧ LbI H tl a b la lb lr us1 us2 A B m' σ' G', fun _ _ h => h, ?_⟩
        have sG : RwA G us1 A := hR1.same s
        refine ⟨_, rfl, _, rfl, la, pl, us1, A, rfl, gla, sG, hc, by lia, fun lg kk f G2 s5 glg k1 k2 k3 k4 => ?_⟩
        dsimp only [gName]
        refine ⟨_, rfl, _, rfl, lg, _, rfl, .inl (SqL.of glg), _, _, rfl, rfl, ?_⟩
        have lgp : (((us1.drop pl).take (kk + 1)).map V.ref).length = kk + 1 := by rw [List.length_map, List.length_take, List.length_drop]; lia
        rw [lgp]
        refine ⟨_, rfl, .inl ⟨rfl, _, SqL.of (s5 _ _ glr)⟩, _, rfl, _, rfl, lg, lb, (A.drop pl).take (kk + 1), B, rfl, ⟨_, glg, ((sG.same s5).drop pl).take (kk + 1)⟩, ⟨us2, s5 _ _ glb, hR2.same (s.trans s5)⟩, by rw [List.length_take, List.length_drop]; lia, lB, fun r z => A5 r (List.mem_of_mem_drop (List.mem_of_mem_take z)), B5, fun v G3 s6 hL => ?_⟩
        obtain ⟨lt, ts3, rfl, nlt, glt, hR6, hnw⟩ := hL
        have glr3 := s6 _ _ (s5 _ _ glr)
        have l6 := hR6.len
        have l7 : (srt (prs ((A.drop pl).take (kk + 1)) B)).length ≤ (kk + 1) * 60 := by
          rw [srt_len, prs_len, List.length_take]
          exact Nat.mul_le_mul (Nat.min_le_left _ _) lB
        refine ⟨lr, lt, _, _, rfl, rfl, glr3, glt, by rw [List.length_map, List.length_map, sizeLine_eq]; lia, us1.length - (pl + (kk + 1)), by lia, ?_⟩
        have hn2 : ∀ u ∈ us ++ ts3, u ≠ lr ∧ H u = none := fun u z => by
          rcases List.mem_append.mp z with z | z
          · exact hne u z
          · exact ⟨Ne.symm (ne_of_none (s5 _ _ glr) (hnw u z)), (s.trans s5).free (hnw u z)⟩
        have pA : pl < A.length := by lia
        have eD : A.drop pl = f :: (A.drop (pl + 1)).take kk ++ A.drop (pl + 1 + kk) := by
          have := List.take_append_drop kk (A.drop (pl + 1))
          rw [List.drop_drop] at this
          rw [List.drop_eq_getElem_cons pA, List.cons_append, this]
          rw [List.getElem?_eq_getElem pA] at k2
          rw [Option.some.inj k2]
        have eT : (A.drop pl).take (kk + 1) = f :: (A.drop (pl + 1)).take kk := by
          rw [eD, List.cons_append, List.take_succ_cons, List.take_append_of_le_length (by rw [List.length_take, List.length_drop]; lia), List.take_take, Nat.min_self]
        have eA : A.take (pl + (kk + 1)) = A.take pl ++ (A.drop pl).take (kk + 1) := List.take_add
        have eR : A.drop (pl + (kk + 1)) = A.drop (pl + 1 + kk) := by rw [show pl + (kk + 1) = pl + 1 + kk by lia]
        have bn := bnd_group (eD ▸ hbd) (eD ▸ (sA : List.Pairwise _ A).drop) k3 k4
        rw [← eT, ← eA, ← eR] at bn
        refine .mk (pl + (kk + 1)) (us ++ ts3) (some (.ref lg)) (((s.trans s5).trans s6).put nrH) (by rw [upd_ne nar]; exact s6 _ _ (s5 _ _ gla)) (by rw [upd_ne nbr]; exact s6 _ _ (s5 _ _ glb)) ?_ rfl (by lia) (by rw [upd_same, List.map_append]) (by rw [List.length_append]; lia) hn2 (RwA.up ?_ fun u z => (hn2 u z).1) bn
        · show [_, _, _, _, _, _, some (V.int ((pl : Int) + ((kk + 1 : Nat) : Int))), _] = _
          rw [← Int.natCast_add]
        · rw [eA, srt_prs fun x hx y hy => hbd x hx y (List.mem_of_mem_take hy)]
          exact (hR.same (s5.trans s6)).app hR6
      · rw [decide_eq_false (show ¬ (us.length : Int) < (m : Int) by lia)]
        exact iteF ⟨_, rfl, _, rfl, tl, C.Listed, dx, [("most", .int m)], .int m, rfl, s _ _ htl, T.cl_Listed, T.na_Listed_most, rfl, m, rfl, lr, _, rfl, SqL.of glr, fin (take_srt hbd (by lia))⟩
    · rw [decide_eq_false (show ¬ (pl : Int) < (us1.length : Int) by lia)]
      exact iteF (iteF ⟨_, rfl, _, rfl, tl, C.Listed, dx, [("most", .int m)], .int m, rfl, s _ _ htl, T.cl_Listed, T.na_Listed_most, rfl, m, rfl, lr, _, rfl, SqL.of glr, fin (by rw [List.take_of_length_le (show A.length ≤ pl by lia)])⟩)
end
end FR


set_option linter.all false
set_option Elab.async false
set_option maxRecDepth 100000
set_option maxHeartbeats 4000000
namespace FR
open PySem L2
theorem nd_K42c__law_k__law_one__law_other : (["_law_k", "_law_one", "_law_other"] : List Str).Nodup := by decide +kernel
inductive spMixed_ (vs : List V) (H : Hp) (Q : VK) : Prop where
  | mk (c : _) (h0_ : vs = [.int c]) (h1_ : ∀ n, Q (.int n) H) : spMixed_ vs H Q
def spMixed : Sp := fun vs H Q E_ => spMixed_ vs H Q
inductive spUsed_ (vs : List V) (H : Hp) (Q : VK) : Prop where
  | mk (c : _) (h0_ : vs = [.int c]) (h1_ : ∀ o v H', OkU o → Same H H' → UVf H H' o v → Q v H') : spUsed_ vs H Q
def spUsed : Sp := fun vs H Q E_ => spUsed_ vs H Q
inductive spRows_ (vs : List V) (H : Hp) (Q : VK) : Prop where
  | mk (c : _) (h0_ : vs = [.int c]) (h1_ : ∀ A v H', SrR A → A.length ≤ 9 → (∀ r ∈ A, r.length ≤ 3) → Same H H' → LLf H H' v A → Q v H') : spRows_ vs H Q
def spRows : Sp := fun vs H Q E_ => spRows_ vs H Q
inductive spCopy_ (vs : List V) (H : Hp) (Q : VK) : Prop where
  | mk (x : _) (o : _) (h0_ : vs = [x]) (h1_ : UV H o x) (h2_ : OkU o) (h3_ : ∀ v H', Same H H' → UVf H H' o v → Q v H') : spCopy_ vs H Q
def spCopy : Sp := fun vs H Q E_ => spCopy_ vs H Q
inductive spNumbers_ (vs : List V) (H : Hp) (Q : VK) : Prop where
  | mk (x : _) (y : _) (o : _) (h0_ : vs = [x, y]) (h1_ : UV H o x) (h2_ : UV H o y) (h3_ : Q (.bl true) H) : spNumbers_ vs H Q
def spNumbers : Sp := fun vs H Q E_ => spNumbers_ vs H Q
inductive spMerged_ (vs : List V) (H : Hp) (Q : VK) : Prop where
  | mk (a b : Addr) (x y : List Int) (h0_ : vs = [.ref a, .ref b]) (h1_ : H a = rwO x) (h2_ : H b = rwO y) (h3_ : ∀ l, H l = none → Q (.ref l) (upd H l (.lst ((mrg x y).map V.int)))) : spMerged_ vs H Q
def spMerged : Sp := fun vs H Q E_ => spMerged_ vs H Q
inductive spTwoU_ (f : Option (List Int) → Option (List Int) → Option (List Int)) (vs : List V) (H : Hp) (Q : VK) : Prop where
  | mk (x : _) (y : _) (ox : _) (oy : _) (h0_ : vs = [x, y]) (h1_ : UV H ox x) (h2_ : UV H oy y) (h3_ : OkU ox) (h4_ : OkU oy) (h5_ : ∀ v H', Same H H' → UVf H H' (f ox oy) v → Q v H') : spTwoU_ f vs H Q
def spTwoU (f : Option (List Int) → Option (List Int) → Option (List Int)) : Sp := fun vs H Q E_ => spTwoU_ f vs H Q
theorem okU_none : OkU none := fun _ h => nomatch h
theorem inV_ints (z : Int) : ∀ hs : List Int, inV (.int z) (hs.map V.int) = decide (z ∈ hs)
  | [] => by unfold inV; rw [List.map_nil, List.any_nil]; simp
  | h :: hs => by
    have ih := inV_ints z hs
    unfold inV at ih ⊢
    rw [List.map_cons, List.any_cons, ih]
    have e : eqV (.int h) (.int z) = decide (h = z) := by
      show (h == z) = _
      rw [Bool.eq_iff_iff]; simp
    rw [e, Bool.eq_iff_iff]
    simp only [Bool.or_eq_true, decide_eq_true_eq, List.mem_cons]
    exact ⟨fun h => h.elim (fun h => .inl h.symm) .inr, fun h => h.elim (fun h => .inl h.symm) .inr⟩

def UsI (H : Hp) (c : Int) (l : Addr) (i : Nat) (σ : St) (G : Hp) : Prop := ∃ (ns : List Int) (m : Int) (v : Option V), σ = [some (.int c), some (.ref l), some (.int m), v] ∧ G = upd H l (.lst (ns.map V.int)) ∧ ns.Pairwise (· < ·) ∧ (∀ n ∈ ns, 0 ≤ n ∧ n < i) ∧ ns.length ≤ i
theorem seq_mid42 {t u : TS} {D : Ends} {σ : St} {H : Hp} (M : St → Hp → Prop) (rest : ∀ σ' H', M σ' H' → u D σ' H') (h : (∀ σ' H', M σ' H' → u D σ' H') → t { D with nx := u D } σ H) : tSeq t u D σ H := h rest

inductive RwI (H : Hp) (c : Int) (mn : Nat) (l : Addr) (i : Nat) (σ : St) (G : Hp) : Prop
  | mk (us : List Addr) (A : Rws) (m : Int) (v w u : Option V) : σ = [some (.int c), some (.int mn), some (.int m), some (.ref l), v, w, u] → Same H G → G l = some (.lst (us.map V.ref)) → RwA G us A → us.length = i → (∀ u ∈ us, u ≠ l ∧ H u = none) → (∀ r ∈ A, r.length ≤ 3) → RwI H c mn l i σ G
inductive RjI (H : Hp) (c : Int) (mn : Nat) (l : Addr) (k : Nat) (us : List Addr) (A : Rws) (m : Int) (b : Addr) (j : Nat) (σ : St) (G : Hp) : Prop
  | mk (r : List Int) (u : Option V) : σ = [some (.int c), some (.int mn), some (.int m), some (.ref l), some (.int k), some (.ref b), u] → Same H G → G l = some (.lst (us.map V.ref)) → RwA G us A → G b = rwO r → r.length = j → RjI H c mn l k us A m b j σ G
section
variable {P : Program} {w : World} {K : PySem.W.Frag} {mg : Str → Option Value} {base : Heap} {C : Adr}
theorem sc__law_mixed : FnScope ["_law_cell"] ["_law_cell"] (defScope s__law_mixed) := scU
theorem ok__law_mixed {f : Addr} {fd : FuncData} (F : Fun K "_law_mixed" "_law_mixed" s__law_mixed f fd) (T : Txt K mg C) : FnOk P w K mg base CX0 1 f fd ["_law_cell"] (spMixed) := by
  refine F.ok sc__law_mixed (fun vs H Q E h => ?_) (fun cdv A outer s H vs Q E hr h => ?_)
  · obtain ⟨c, rfl, _⟩ := h
    rfl
  · obtain ⟨c, rfl, q⟩ := h
    refine ⟨_, (pss_cons (psU 0 sc__law_mixed (pe_op op_mod (pv 0) pe_int))
      (pss_one (ps_ret (pe_op op_mul (pe_op op_mul (pe_op op_add (pe_op op_add (pe_op op_mul (pv 0) (pv 0)) (pe_op op_mul pe_int (pv 0))) pe_int) (pe_op op_add (pe_op op_mul (pv 0) (pv 0)) pe_int)) (pe_op op_pow pe_int pe_int))))), ?_⟩
    refine ⟨_, rfl, _, _, rfl, rfl, (by show (0 : Int) < 2147483629; decide), ?_⟩
    have h0 : 0 ≤ c % 2147483629 := Int.emod_nonneg _ (by decide)
    have h1 : c % 2147483629 < 2147483629 := Int.emod_lt_of_pos _ (by decide)
    dsimp only [gName]
    show tRet _ _ [some (.int (c % 2147483629))] H
    revert h0 h1
    generalize c % 2147483629 = d
    intro h0 h1
    have h2 : 0 ≤ d * d := Int.mul_nonneg h0 h0
    have h3 : d * d ≤ 2147483629 * 2147483629 := Int.mul_le_mul (Int.le_of_lt h1) (Int.le_of_lt h1) h0 (by decide)
    have b1 : CMul d d := .inl ⟨by lia, by lia⟩
    have b2 : CMul (d * d + 5 * d + 7) (d * d + 3) := .inl ⟨by lia, by lia⟩
    exact ⟨_, rfl, _, rfl, _, _, rfl, rfl, b1, _, rfl, _, _, rfl, rfl, .inl ⟨by decide, by decide⟩, _, _, rfl, rfl, _, _, rfl, rfl, _, rfl, _, rfl, _, _, rfl, rfl, b1, _, _, rfl, rfl, _, _, rfl, rfl, b2, _, _, rfl, rfl, ⟨by decide, by decide, by decide⟩, _, _, rfl, rfl, .inr ⟨by decide, by decide⟩, q _⟩
theorem sc__law_used : FnScope ["_law_cell", "_law_numbers_here", "_law_mixed_here", "_law_k"] ["_law_cell"] (defScope s__law_used) := scU
theorem ok__law_used {f : Addr} {fd : FuncData} (F : Fun K "_law_used" "_law_used" s__law_used f fd) (T : Txt K mg C) (U__law_mixed : Used P w K mg CX0 1 "_law_mixed" ["_law_cell"] (spMixed)) : FnOk P w K mg base CX0 2 f fd ["_law_cell"] (spUsed) := by
  refine F.ok sc__law_used (fun vs H Q E h => ?_) (fun cdv A outer s H vs Q E hr h => ?_)
  · obtain ⟨c, rfl, _⟩ := h
    rfl
  · obtain ⟨c, rfl, q⟩ := h
    have hu := hu_of hr
    have hU := hr.units
    refine qex ?_
    refine ⟨_, (qss_cons ⟨(ps_if (pt_cmpR op_eq (pe_op op_mod (pv 0) pe_int) pe_int (nomark _)) (pss_one (ps_ret pe_non)) pss_nil)⟩
      (qss_cons (qsU 1 sc__law_used (qe_lst qa_nil))
      (qss_cons ⟨(psU 2 sc__law_used (pcU U__law_mixed hr pass0 (pa1 (pv 0))))⟩
      (qss_cons ⟨(pfU (pi_range1 rfl T.z_range (pa1 pe_int)) (pgU 3 sc__law_used) (pss_cons (ps_if (PW.pt (pw_and (pt_cmpR op_gt (pe_op op_mod (pv 0) pe_int) pe_int (nomark _)) (pw_and1 (pt_cmpR op_eq (pe_op op_mod (pv 2) pe_int) pe_int (nomark _))))) (pss_one (ps_expr (apU K (pv 1) (pv 3)))) pss_nil)
      (pss_one (psU 2 sc__law_used (pe_op op_fdiv (pv 2) pe_int)))))⟩
      (qss_one ⟨(ps_ret (pv 1))⟩))))), ?_⟩
    refine ⟨_, rfl, _, _, rfl, rfl, (by show (0 : Int) < 6; decide), rfl, _, rfl, ?_⟩
    refine ite2 (fun _ => q none _ H okU_none (Same.refl H) rfl) fun _ => ?_
    refine ⟨line1000 (by decide), fun l hl => ?_⟩
    dsimp only [gName]
    refine ⟨_, rfl, c, rfl, fun n => ?_⟩
    dsimp only [gName]
    refine ⟨60, rfl, by decide, by decide, for_range (n := 60) (UsI H c l) ⟨[], n, none, rfl, rfl, .nil, (fun _ z => nomatch z), Nat.le_refl _⟩ ?_ ?_⟩
    · rintro i σ G hi ⟨ns, m, v, rfl, rfl, hp, hb, hlen⟩
      have nx : ∀ v, UsI H c l (i + 1) [some (.int c), some (.ref l), some (.int v), some (.int (0 + (i : Int)))] (upd H l (.lst (ns.map V.int))) := fun v => ⟨ns, v, _, rfl, rfl, hp, fun n z => by have := hb n z; lia, by lia⟩
      refine ⟨_, rfl, _, _, rfl, rfl, (by show (0 : Int) < 6; decide), _, _, rfl, rfl, _, rfl, ?_⟩
      refine ite2 (fun _ => ?_) fun _ => ?_
      · refine ⟨_, rfl, _, _, rfl, rfl, (by show (0 : Int) < 3; decide), rfl, _, rfl, ?_⟩
        refine ite2 (fun _ => ?_) fun _ => ?_
        · refine ⟨_, rfl, .inl ⟨rfl, _, SqL.of upd_same⟩, _, rfl, l, _, _, rfl, rfl, upd_same, by rw [List.length_map, sizeLine_eq]; lia, ?_⟩
          refine ⟨_, rfl, _, _, rfl, rfl, ⟨by decide, by decide⟩, ns ++ [(i : Int)], _, _, rfl, ?_, ?_, ?_, ?_⟩
          · rw [upd_upd, List.map_append]
            show upd H l (.lst (ns.map V.int ++ [.int (0 + (i : Int))])) = _
            rw [Int.zero_add]
            rfl
          · exact List.pairwise_append.mpr ⟨hp, List.pairwise_singleton _ _, fun a ha b hb' => by rw [List.mem_singleton.mp hb']; exact (hb a ha).2⟩
          · intro n z
            rcases List.mem_append.mp z with z | z
            · have := hb n z
              lia
            · rw [List.mem_singleton.mp z]
              lia
          · rw [List.length_append]
            show ns.length + 1 ≤ _
            lia
        · exact ⟨_, rfl, _, _, rfl, rfl, ⟨by decide, by decide⟩, nx _⟩
      · exact ⟨_, rfl, _, _, rfl, rfl, ⟨by decide, by decide⟩, nx _⟩
    · rintro σ G ⟨ns, m, v, rfl, rfl, hp, hb, hlen⟩
      exact ⟨_, rfl, q (some ns) _ _ (fun x e => by cases e; exact ⟨hp, hb⟩) (Same.upd hl) ⟨l, rfl, hl, upd_same⟩⟩
theorem sc__law_copy : FnScope ["_law_value"] ["_law_value"] (defScope s__law_copy) := scU
theorem ok__law_copy {f : Addr} {fd : FuncData} (F : Fun K "_law_copy" "_law_copy" s__law_copy f fd) (T : Txt K mg C) : FnOk P w K mg base CX0 1 f fd ["_law_value"] (spCopy) := by
  refine F.ok sc__law_copy (fun vs H Q E h => ?_) (fun cdv A outer s H vs Q E hr h => ?_)
  · obtain ⟨x, o, rfl, _⟩ := h
    rfl
  · obtain ⟨x, o, rfl, gx, ko, q⟩ := h
    refine ⟨_, (pss_cons (ps_if (pt_cmpR op_isN (pv 0) pe_non (nomark _)) (pss_one (ps_ret pe_non)) pss_nil)
      (pss_one (ps_ret (pe_callTy (call_list_ofK K rfl) (by rfl) T.z_list PyProof.Rows.Boot.«list» (pa1 (pv 0)))))), ?_⟩
    refine ⟨_, rfl, rfl, _, rfl, ?_⟩
    cases o with
    | none =>
      cases gx
      exact iteT (q _ _ (Same.refl H) rfl)
    | some x =>
      obtain ⟨a, rfl, ha⟩ := gx
      exact iteF ⟨_, rfl, a, _, rfl, .inl (SqL.of ha), fun l hl => q _ _ (Same.upd hl) ⟨l, rfl, hl, upd_same⟩⟩
theorem sc__law_numbers : FnScope ["_law_found", "_law_due", "_law_number"] ["_law_found", "_law_due"] (defScope s__law_numbers) := scU
theorem ok__law_numbers {f : Addr} {fd : FuncData} (F : Fun K "_law_numbers" "_law_numbers" s__law_numbers f fd) (T : Txt K mg C) : FnOk P w K mg base CX0 1 f fd ["_law_found", "_law_due"] (spNumbers) := by
  refine F.ok sc__law_numbers (fun vs H Q E h => ?_) (fun cdv A outer s H vs Q E hr h => ?_)
  · obtain ⟨x, y, o, rfl, _⟩ := h
    rfl
  · obtain ⟨x, y, o, rfl, gx, gy, q⟩ := h
    have hu := hu_of hr
    have hU := hr.units
    refine qex ?_
    refine ⟨_, (qss_cons ⟨(ps_if (pt_cmpR op_isN (pv 1) pe_non (nomark _)) (pss_one (ps_ret (pe_cmpR op_isN (pv 0) pe_non (nomark _)))) pss_nil)⟩
      (qss_cons ⟨(ps_if (pt_not (pt_val (pe_callB (call_isiK K rfl) (by rfl) T.z_isinstance PyProof.Rows.Boot.«isinstance» (pa_cons (pv 0) (pa1 (pe_bltn (v := .ty "list") (by rfl) T.z_list PyProof.Rows.Boot.«list» rfl)))))) (pss_one (ps_ret pe_bl)) pss_nil)⟩
      (qss_cons ⟨(pfU (pi_listK K rfl (pv 0)) (pgU 2 sc__law_numbers) (pss_one (ps_if (PW.pt (pw_or (pt_not (pt_val (pe_callB (call_isiK K rfl) (by rfl) T.z_isinstance PyProof.Rows.Boot.«isinstance» (pa_cons (pv 2) (pa1 (pe_bltn (v := .ty "int") (by rfl) T.z_int PyProof.Rows.Boot.«int» rfl)))))) (pw_or1 (pt_val (pe_callB (call_isiK K rfl) (by rfl) T.z_isinstance PyProof.Rows.Boot.«isinstance» (pa_cons (pv 2) (pa1 (pe_bltn (v := .ty "bool") (by rfl) T.z_bool PyProof.Rows.Boot.«bool» rfl)))))))) (pss_one (ps_ret pe_bl)) pss_nil)))⟩
      (qss_one ⟨(ps_ret (pe_cmpR (op_eq_deep K rfl hU) (pv 0) (pv 1) (nomark _)))⟩)))), ?_⟩
    refine ⟨_, rfl, rfl, _, rfl, ?_⟩
    cases o with
    | none =>
      cases gx
      cases gy
      exact iteT ⟨_, rfl, rfl, q⟩
    | some x =>
      obtain ⟨a, rfl, ha⟩ := gx
      obtain ⟨b, rfl, hb⟩ := gy
      refine iteF ⟨_, rfl, _, _, _, _, _, rfl, .lst ha, rfl, kit_list (.lst []), _, rfl, iteF ?_⟩
      refine ⟨_, rfl, a, rfl, ⟨_, SqL.of ha⟩, for_list (K := K) (a := a) (xs := x.map V.int) (fun i σ G => (∃ v, σ = [some (.ref a), some (.ref b), v]) ∧ G = H) ⟨⟨none, rfl⟩, rfl⟩ ?_ ?_ ?_⟩
      · rintro i σ G _ ⟨_, rfl⟩
        exact SqL.of ha
      · rintro i v σ G hi ⟨⟨v3, rfl⟩, rfl⟩
        rw [List.getElem?_map] at hi
        obtain ⟨n, _, rfl⟩ := Option.map_eq_some_iff.mp hi
        exact ⟨_, rfl, _, _, _, _, _, rfl, .int n, rfl, kit_int (.int n), _, rfl, iteF ⟨_, rfl, _, _, _, _, _, rfl, .int n, rfl, kit_bool (.int n), _, rfl, iteF ⟨⟨_, rfl⟩, rfl⟩⟩⟩
      · rintro σ G ⟨⟨v3, rfl⟩, rfl⟩
        refine ⟨_, rfl, _, rfl, .lst (x.map D.int), .lst (x.map D.int), .lst (.inl ha) (Dens.ints _), .lst (.inl hb) (Dens.ints x), ok_intsD _, ok_intsD _, Nat.le_trans (dep_intsD _) (by decide), ?_⟩
        rw [eqD_ints, decide_eq_true rfl]
        exact q
theorem sc__law_merged : FnScope ["_law_one", "_law_other"] ["_law_one", "_law_other"] (defScope s__law_merged) := scU
theorem ok__law_merged {f : Addr} {fd : FuncData} (F : Fun K "_law_merged" "_law_merged" s__law_merged f fd) (T : Txt K mg C) : FnOk P w K mg base CX0 1 f fd ["_law_one", "_law_other"] (spMerged) := by
  refine F.ok sc__law_merged (fun vs H Q E h => ?_) (fun cdv A outer s H vs Q E hr h => ?_)
  · obtain ⟨a, b, x, y, rfl, _⟩ := h
    rfl
  · obtain ⟨a, b, x, y, rfl, ha, hb, q⟩ := h
    refine ⟨_, (pss_one (ps_ret (pe_comp (N := ["_law_k", "_law_one", "_law_other"]) (ρ := [none, some 0, some 1]) rfl (CompScope.closes ["_law_one", "_law_other"] (defScope s__law_merged).names rfl rfl rfl rfl (by decide +kernel) (by decide +kernel) (fun x h => cell_has h) (by decide +kernel) rfl (by decide +kernel)) (pi_range1 rfl T.z_range (pa1 pe_int)) (fun _ _ _ _ _ => (pg_name (i := 0) nd_K42c__law_k__law_one__law_other rfl (Or.inl rfl) (.inr rfl))) (fun _ _ _ _ _ => (pts_one (PW.pt (pw_or (pt_cmpR (op_in_seqK K rfl) (pv 0) (pv 1) (by with_unfolding_all rfl)) (pw_or1 (pt_cmpR (op_in_seqK K rfl) (pv 0) (pv 2) (by with_unfolding_all rfl))))))) (fun _ _ _ _ _ => (pv 0))))), ?_⟩
    refine ⟨60, rfl, by decide, by decide, fun l hl => ?_⟩
    refine comp_filter (n := 60) (fun k => decide ((k : Int) ∈ x) || decide ((k : Int) ∈ y)) (fun k => .int k) gives_range hl (line1000 (by decide)) (fun τ => ∃ v, τ = [v, some (.ref a), some (.ref b)]) ⟨none, rfl⟩ ?_ ?_
    · rintro τ' k z H' Q1 Q2 ⟨v, rfl⟩ rfl hk s h1 h2
      rw [Int.zero_add]
      have f1 := fun x : List Int => show (x.map V.int).all flatV = true from List.all_eq_true.mpr fun v hv => by obtain ⟨i, _, rfl⟩ := List.mem_map.mp hv; rfl
      refine ⟨_, rfl, _, rfl, a, _, rfl, .inl (SqL.of (s _ _ ha)), rfl, f1 x, _, rfl, ?_⟩
      show if inV (.int k) (x.map V.int) = true then _ else _
      rw [inV_ints]
      cases e : decide ((k : Int) ∈ x) with
      | true => exact iteT (iteT ⟨_, rfl, h1 _ ⟨_, rfl⟩ (by rw [e]; rfl)⟩)
      | false =>
        refine iteF ⟨_, rfl, _, rfl, b, _, rfl, .inl (SqL.of (s _ _ hb)), rfl, f1 y, _, rfl, ?_⟩
        show if inV (.int k) (y.map V.int) = true then _ else _
        rw [inV_ints]
        cases e2 : decide ((k : Int) ∈ y) with
        | true => exact iteT ⟨_, rfl, h1 _ ⟨_, rfl⟩ (by rw [e2, Bool.or_true])⟩
        | false => exact iteF (h2 _ ⟨_, rfl⟩ (by rw [e, e2]; rfl))
    · have e : ((List.range 60).filter fun k : Nat => decide ((k : Int) ∈ x) || decide ((k : Int) ∈ y)).map (fun k : Nat => V.int k) = (mrg x y).map V.int := by
        unfold mrg
        rw [List.filter_map, List.map_map]
        rfl
      rw [e]
      exact q l hl
theorem sc__law_either : FnScope ["_law_one", "_law_other"] ["_law_one", "_law_other"] (defScope s__law_either) := scU
theorem ok__law_either {f : Addr} {fd : FuncData} (F : Fun K "_law_either" "_law_either" s__law_either f fd) (T : Txt K mg C) (U__law_merged : Used P w K mg CX0 1 "_law_merged" ["_law_one", "_law_other"] (spMerged)) (U__law_copy : Used P w K mg CX0 1 "_law_copy" ["_law_value"] (spCopy)) : FnOk P w K mg base CX0 2 f fd ["_law_one", "_law_other"] (spTwoU eiU) := by
  refine F.ok sc__law_either (fun vs H Q E h => ?_) (fun cdv A outer s H vs Q E hr h => ?_)
  · obtain ⟨x, y, ox, oy, rfl, _⟩ := h
    rfl
  · obtain ⟨x, y, ox, oy, rfl, gx, gy, kx, ky, q⟩ := h
    refine ⟨_, (pss_cons (ps_if (pt_cmpR op_isN (pv 0) pe_non (nomark _)) (pss_one (ps_ret (pcU U__law_copy hr pass0 (pa1 (pv 1))))) pss_nil)
      (pss_cons (ps_if (pt_cmpR op_isN (pv 1) pe_non (nomark _)) (pss_one (ps_ret (pe_callTy (call_list_ofK K rfl) (by rfl) T.z_list PyProof.Rows.Boot.«list» (pa1 (pv 0))))) pss_nil)
      (pss_one (ps_ret (pcU U__law_merged hr pass0 (pa_cons (pv 0) (pa1 (pv 1)))))))), ?_⟩
    refine ⟨_, rfl, rfl, _, rfl, ?_⟩
    cases ox with
    | none =>
      cases gx
      exact iteT ⟨_, rfl, _, oy, rfl, gy, ky, q⟩
    | some x =>
      obtain ⟨a, rfl, ha⟩ := gx
      refine iteF ⟨_, rfl, rfl, _, rfl, ?_⟩
      cases oy with
      | none =>
        cases gy
        exact iteT ⟨_, rfl, a, _, rfl, .inl (SqL.of ha), fun l hl => q _ _ (Same.upd hl) ⟨l, rfl, hl, upd_same⟩⟩
      | some y =>
        obtain ⟨b, rfl, hb⟩ := gy
        exact iteF ⟨_, rfl, _, rfl, a, b, x, y, rfl, ha, hb, fun l hl => q _ _ (Same.upd hl) ⟨l, rfl, hl, upd_same⟩⟩
theorem sc__law_both : FnScope ["_law_one", "_law_other"] ["_law_one", "_law_other"] (defScope s__law_both) := scU
theorem ok__law_both {f : Addr} {fd : FuncData} (F : Fun K "_law_both" "_law_both" s__law_both f fd) (T : Txt K mg C) (U__law_merged : Used P w K mg CX0 1 "_law_merged" ["_law_one", "_law_other"] (spMerged)) : FnOk P w K mg base CX0 2 f fd ["_law_one", "_law_other"] (spTwoU boU) := by
  refine F.ok sc__law_both (fun vs H Q E h => ?_) (fun cdv A outer s H vs Q E hr h => ?_)
  · obtain ⟨x, y, ox, oy, rfl, _⟩ := h
    rfl
  · obtain ⟨x, y, ox, oy, rfl, gx, gy, kx, ky, q⟩ := h
    refine ⟨_, (pss_cons (ps_if (PW.pt (pw_or (pt_cmpR op_isN (pv 0) pe_non (nomark _)) (pw_or1 (pt_cmpR op_isN (pv 1) pe_non (nomark _))))) (pss_one (ps_ret pe_non)) pss_nil)
      (pss_one (ps_ret (pcU U__law_merged hr pass0 (pa_cons (pv 0) (pa1 (pv 1))))))), ?_⟩
    refine ⟨_, rfl, rfl, _, rfl, ?_⟩
    cases ox with
    | none =>
      cases gx
      exact iteT (iteT (q _ _ (Same.refl H) (by cases oy <;> rfl)))
    | some x =>
      obtain ⟨a, rfl, ha⟩ := gx
      refine iteF ⟨_, rfl, rfl, _, rfl, ?_⟩
      cases oy with
      | none =>
        cases gy
        exact iteT (q _ _ (Same.refl H) rfl)
      | some y =>
        obtain ⟨b, rfl, hb⟩ := gy
        exact iteF ⟨_, rfl, _, rfl, a, b, x, y, rfl, ha, hb, fun l hl => q _ _ (Same.upd hl) ⟨l, rfl, hl, upd_same⟩⟩
theorem sc__law_rows : FnScope ["_law_cell", "_law_many", "_law_mixed_here", "_law_rows_here", "_law_k", "_law_row", "_law_j"] ["_law_cell"] (defScope s__law_rows) := scU
theorem ok__law_rows {f : Addr} {fd : FuncData} (F : Fun K "_law_rows" "_law_rows" s__law_rows f fd) (T : Txt K mg C) (U__law_mixed : Used P w K mg CX0 1 "_law_mixed" ["_law_cell"] (spMixed)) : FnOk P w K mg base CX0 2 f fd ["_law_cell"] (spRows) := by
  refine F.ok sc__law_rows (fun vs H Q E h => ?_) (fun cdv A outer s H vs Q E hr h => ?_)
  · obtain ⟨c, rfl, _⟩ := h
    rfl
  · obtain ⟨c, rfl, q⟩ := h
    have hu := hu_of hr
    have hU := hr.units
    refine qex ?_
    refine ⟨_, (qss_cons ⟨(psU 1 sc__law_rows (pe_op op_mod (pv 0) pe_int))⟩
      (qss_cons ⟨(ps_if (pt_cmpR op_eq (pe_op op_mod (pe_op op_fdiv (pv 0) pe_int) pe_int) pe_int (nomark _)) (pss_one (psU 1 sc__law_rows pe_int)) pss_nil)⟩
      (qss_cons ⟨(psU 2 sc__law_rows (pcU U__law_mixed hr pass0 (pa1 (pe_op op_fdiv (pv 0) pe_int))))⟩
      (qss_cons (qsU 3 sc__law_rows (qe_lst qa_nil))
      (qss_cons ⟨(pfU (pi_range1 rfl T.z_range (pa1 (pv 1))) (pgU 4 sc__law_rows) (pss_cons (psU 5 sc__law_rows (pe_lst pa_nil))
      (pss_cons (pfU (pi_range1 rfl T.z_range (pa1 (pe_op op_mod (pv 2) pe_int))) (pgU 6 sc__law_rows) (pss_one (ps_expr (apU K (pv 5) (pe_op op_mod (pe_op op_fdiv (pv 2) (pe_op op_add (pe_op op_add pe_int (pv 4)) (pe_op op_mul pe_int (pv 6)))) pe_int)))))
      (pss_cons (ps_expr (apU K (pv 3) (pv 5)))
      (pss_one (psU 2 sc__law_rows (pe_op op_fdiv (pv 2) pe_int)))))))⟩
      (qss_one ⟨(ps_ret (pe_callB (call_sortedLx hU) (by rfl) T.z_sorted PyProof.Rows.Boot.«sorted» (pa1 (pv 3))))⟩)))))), ?_⟩
    refine ⟨_, rfl, _, _, rfl, rfl, (by show (0 : Int) < 4; decide), ?_⟩
    dsimp only [gName]
    have hc0 : 0 ≤ c % 4 := Int.emod_nonneg _ (by decide)
    have hc1 : c % 4 < 4 := Int.emod_lt_of_pos _ (by decide)
    obtain ⟨n4, e4⟩ : ∃ n : Nat, c % 4 = (n : Int) := ⟨(c % 4).toNat, by lia⟩
    refine seq_mid42 (fun σ' H' => H = H' ∧ ∃ mn : Nat, mn ≤ 9 ∧ σ' = [some (.int c), some (.int mn), none, none, none, none, none]) ?_ fun rest => ?_
    · rintro _ _ ⟨rfl, mn, hmn, rfl⟩
      refine ⟨_, rfl, _, _, rfl, rfl, ⟨by decide, by decide⟩, _, rfl, fun m => ?_⟩
      dsimp only [gName]
      refine ⟨line1000 (by decide), fun l hl => ?_⟩
      obtain ⟨G1, e1, s1, hl1⟩ := newG (.lst []) hl
      rw [e1]
      dsimp only [gName]
      refine ⟨_, rfl, mn, rfl, by lia, by lia, for_range (n := mn) (RwI H c mn l) (.mk [] [] m none none none rfl s1 hl1 rfl rfl (fun _ z => nomatch z) fun _ z => nomatch z) ?_ ?_⟩
      · rintro k σ G hk ⟨us, A, m, v, w, u, rfl, s, gl, hR, hus, hne, hA3⟩
        refine ⟨line1000 (by decide), fun b hb => ?_⟩
        obtain ⟨G2, e2, s2, hb2⟩ := newG (.lst []) hb
        rw [e2]
        have nbl : b ≠ l := Ne.symm (ne_of_none gl hb)
        dsimp only [gName]
        have hm0 : 0 ≤ m % 4 := Int.emod_nonneg _ (by decide)
        have hm1 : m % 4 < 4 := Int.emod_lt_of_pos _ (by decide)
        obtain ⟨n5, e5⟩ : ∃ n : Nat, m % 4 = (n : Int) := ⟨(m % 4).toNat, by lia⟩
        refine ⟨_, rfl, _, _, rfl, rfl, (by show (0 : Int) < 4; decide), _, rfl, by lia, by lia, ?_⟩
        rw [e5]
        refine for_range (n := n5) (RjI H c mn l k us A m b) (.mk [] _ (by rw [Int.zero_add]; rfl) (s.trans s2) (s2 _ _ gl) (hR.same s2) hb2 rfl) ?_ ?_
        · rintro j σ G3 hj ⟨r, u, rfl, s3, gl3, hR3, gb3, hrl⟩
          refine ⟨_, rfl, .inl ⟨rfl, _, SqL.of gb3⟩, _, rfl, _, rfl, _, _, rfl, rfl, _, rfl, _, _, rfl, rfl, .inl ⟨by decide, by decide⟩, _, _, rfl, rfl, _, _, rfl, rfl, ⟨by lia, by lia⟩, _, _, rfl, rfl, (by show (0 : Int) < 60; decide), b, _, _, rfl, rfl, gb3, by rw [List.length_map, sizeLine_eq]; lia, ?_⟩
          refine .mk (r ++ [_]) _ rfl (s3.put (s.free hb)) (by rw [upd_ne (Ne.symm nbl)]; exact gl3) (hR3.up fun t z => ?_) (by rw [upd_same, rwO, List.map_append]; rfl) (by rw [List.length_append, hrl]; rfl)
          obtain ⟨r', _, e'⟩ := hR.row z
          exact ne_of_none e' hb
        · rintro σ G3 ⟨r, u, rfl, s3, gl3, hR3, gb3, hrl⟩
          refine ⟨_, rfl, .inl ⟨rfl, _, SqL.of gl3⟩, _, rfl, l, _, _, rfl, rfl, gl3, by rw [List.length_map, sizeLine_eq]; lia, ?_⟩
          have ne2 : ∀ u ∈ us ++ [b], u ≠ l ∧ H u = none := fun u z => by
            rcases List.mem_append.mp z with z | z
            · exact hne u z
            · rw [List.mem_singleton.mp z]
              exact ⟨nbl, s.free hb⟩
          refine ⟨_, rfl, _, _, rfl, rfl, ⟨by decide, by decide⟩, .mk (us ++ [b]) (A ++ [r]) _ _ _ _ rfl (s3.put hl) (by rw [upd_same, List.map_append]; rfl) ((hR3.app (RwA.one gb3)).up fun t z => (ne2 t z).1) (by rw [List.length_append, hus]; rfl) ne2 fun x z => ?_⟩
          rcases List.mem_append.mp z with z | z
          · exact hA3 x z
          · rw [List.mem_singleton.mp z]
            lia
      · rintro σ G ⟨us, A, m, v, w, u, rfl, s, gl, hR, hus, hne, hA3⟩
        refine ⟨_, rfl, l, us, A, rfl, gl, hR, fun l2 ts' nl2 hp hR2 => q (srt A) _ _ (srt_sr A) (by rw [srt_len, ← hR.len, hus]; exact hmn) (fun r z => hA3 r ((srt_perm A).mem_iff.mp z)) (s.trans (Same.upd nl2)) (.of (s.free nl2) upd_same (hR2.same (Same.upd nl2)) fun t z => (hne t (hp.mem_iff.mp z)).2)⟩
    · refine ⟨_, rfl, _, _, rfl, rfl, ⟨by decide, by decide⟩, _, _, rfl, rfl, (by show (0 : Int) < 5; decide), rfl, _, rfl, ?_⟩
      refine ite2 (fun _ => rest _ _ ⟨rfl, 9, Nat.le_refl _, rfl⟩) fun _ => rest _ _ ⟨rfl, n4, by lia, ?_⟩
      show [some (V.int c), some (V.int (c % 4)), none, none, none, none, none] = _
      rw [e4]
end
end FR


set_option linter.all false
set_option Elab.async false
set_option maxRecDepth 100000
set_option maxHeartbeats 4000000
namespace FR
open PySem L2

inductive spUsedRight_ (CU : Addr) (vs : List V) (H : Hp) (Q : VK) : Prop where
  | mk (u dx : Addr) (x : _) (y : _) (ox : _) (oy : _) (h0_ : vs = [.ref u, x, y]) (h1_ : H u = some (.ins CU dx [])) (h2_ : UV H ox x) (h3_ : UV H oy y) (h4_ : OkU ox) (h5_ : OkU oy) (h6_ : ∀ H', Same H H' → Q (.bl true) H') : spUsedRight_ CU vs H Q
def spUsedRight (CU : Addr) : Sp := fun vs H Q E_ => spUsedRight_ CU vs H Q
inductive spLists_ (vs : List V) (H : Hp) (Q : VK) : Prop where
  | mk (a b : Addr) (A : Rws) (h0_ : vs = [.ref a, .ref b]) (h1_ : LL H a A) (h2_ : LL H b A) (h3_ : A.length ≤ 1000) (h4_ : Q (.bl true) H) : spLists_ vs H Q
def spLists : Sp := fun vs H Q E_ => spLists_ vs H Q
inductive spJoined_ (vs : List V) (H : Hp) (Q : VK) : Prop where
  | mk (a b : Addr) (A B : Rws) (h0_ : vs = [.ref a, .ref b]) (h1_ : LL H a A) (h2_ : LL H b B) (h3_ : A.length ≤ 60) (h4_ : B.length ≤ 60) (h5_ : (∀ r ∈ A, r.length ≤ 500)) (h6_ : (∀ r ∈ B, r.length ≤ 500)) (h7_ : ∀ v H', Same H H' → LLf H H' v (srt (prs A B)) → Q v H') : spJoined_ vs H Q
def spJoined : Sp := fun vs H Q E_ => spJoined_ vs H Q
def dO : Option (List Int) → D
  | none => .non
  | some x => .lst (x.map D.int)
theorem UV.den {H : Hp} {o : Option (List Int)} {v : V} (h : UV H o v) : Den H v (dO o) := by
  cases o with
  | none => cases h; exact .non
  | some x =>
    obtain ⟨a, rfl, ha⟩ := h
    exact .lst (.inl ha) (Dens.ints x)
theorem dO_ok (o : Option (List Int)) : (dO o).ok = true := by
  cases o with
  | none => rfl
  | some x => exact ok_intsD x
theorem dO_dep (o : Option (List Int)) : (dO o).dep ≤ 1 := by
  cases o with
  | none => exact Nat.zero_le _
  | some x => exact dep_intsD x
theorem UV.up {H : Hp} {o : Option (List Int)} {v : V} {b : Addr} {u : HO} (h : UV H o v) (hb : ∀ a, v = .ref a → a ≠ b) : UV (upd H b u) o v := by
  cases o with
  | none => exact h
  | some x =>
    obtain ⟨a, rfl, ha⟩ := h
    exact ⟨a, rfl, by rw [upd_ne (hb a rfl)]; exact ha⟩
theorem UVf.nw {H H' : Hp} {o : Option (List Int)} {v : V} {a : Addr} (h : UVf H H' o v) (e : v = .ref a) : H a = none := by
  cases o with
  | none => cases h; cases e
  | some x =>
    obtain ⟨b, rfl, hb, _⟩ := h
    cases e
    exact hb

inductive UrI (H : Hp) (u l fl : Addr) (x y v1 v2 w1 w2 : V) (ox oy o1 o2 : Option (List Int)) (i : Nat) (σ : St) (G : Hp) : Prop
  | mk (v : Option V) : σ = [some (.ref u), some x, some y, some (.ref l), some (.ref fl), v] → Same H G → G l = some (.lst [v1, v2]) → G fl = some (.lst [w1, w2]) → UV G o1 w1 → UV G o2 w2 → (i = 0 → UV G ox v1) → (i ≤ 1 → UV G oy v2) → UrI H u l fl x y v1 v2 w1 w2 ox oy o1 o2 i σ G
theorem turn42 {K : PySem.W.Frag} {D : Ends} {σ : St} {G : Hp} {vk : V} {o : Option (List Int)} (h5 : σ[5]? = some (some vk)) (ho : UV G o vk) (hlen : ∀ x, o = some x → x.length ≤ 60) (h0 : o = none → D.nx σ G) (h1 : ∀ x a, o = some x → vk = .ref a → G a = rwO x → D.nx σ (upd G a (.lst (x.map V.int ++ [.int 60])))) :
    tIfS (tTest (tOp (fun x y H Q => y = V.non ∧ Q (V.bl !decide (x = V.non)) H) (tVar 5) (tC V.non))) (tDrop (tBM K "list" rAppend (tVar 5) (tCons (tC (V.int 60)) tNil))) tNext D σ G := by
  refine ⟨_, h5, rfl, _, rfl, ?_⟩
  cases o with
  | none =>
    cases ho
    exact iteF (h0 rfl)
  | some z =>
    obtain ⟨a, rfl, hz⟩ := ho
    exact iteT ⟨_, h5, .inl ⟨rfl, _, SqL.of hz⟩, a, _, _, rfl, rfl, hz, by have := hlen z rfl; rw [List.length_map, sizeLine_eq]; lia, h1 z a rfl rfl hz⟩
section
variable {P : Program} {w : World} {K : PySem.W.Frag} {mg : Str → Option Value} {base : Heap} {C : Adr}
theorem sc__law_used_right : FnScope ["_law_used_here", "_law_one", "_law_other", "_law_handed", "_law_found", "_law_value"] ["_law_used_here", "_law_one", "_law_other"] (defScope s__law_used_right) := scU
theorem ok__law_used_right {f : Addr} {fd : FuncData} (F : Fun K "_law_used_right" "_law_used_right" s__law_used_right f fd) (T : Txt K mg C) (U__law_copy : Used P w K mg CX0 1 "_law_copy" ["_law_value"] (spCopy)) (U__law_numbers : Used P w K mg CX0 1 "_law_numbers" ["_law_found", "_law_due"] (spNumbers)) (U__law_either : Used P w K mg CX0 2 "_law_either" ["_law_one", "_law_other"] (spTwoU eiU)) (U__law_both : Used P w K mg CX0 2 "_law_both" ["_law_one", "_law_other"] (spTwoU boU)) (U_Used_both : UsedM P w K mg CX0 1 C.Used "both" ["self", "one", "other"] (spU2 boU)) (U_Used_either : UsedM P w K mg CX0 1 C.Used "either" ["self", "one", "other"] (spU2 eiU)) : FnOk P w K mg base CX0 3 f fd ["_law_used_here", "_law_one", "_law_other"] (spUsedRight C.Used) := by
  refine F.ok sc__law_used_right (fun vs H Q E h => ?_) (fun cdv A outer s H vs Q E hr h => ?_)
  · obtain ⟨u, dx, x, y, ox, oy, rfl, _⟩ := h
    rfl
  · obtain ⟨u, dx, x, y, ox, oy, rfl, hu0, gx, gy, kx, ky, q⟩ := h
    have hu := hu_of hr
    have hU := hr.units
    refine qex ?_
    refine ⟨_, (qss_cons ⟨(psU 3 sc__law_used_right (pe_lst (pa_cons (pcU U__law_copy hr pass0 (pa1 (pv 1))) (pa1 (pcU U__law_copy hr pass0 (pa1 (pv 2)))))))⟩
      (qss_cons ⟨(psU 4 sc__law_used_right (pe_lst (pa_cons (pmU (pv 0) T.cl_Used U_Used_either hr pass0 (pa_cons (ixL K (pv 3) pe_int) (pa1 (ixL K (pv 3) pe_int)))) (pa1 (pmU (pv 0) T.cl_Used U_Used_both hr pass0 (pa_cons (ixL K (pv 3) pe_int) (pa1 (ixL K (pv 3) pe_int))))))))⟩
      (qss_cons ⟨(ps_if (pt_cmpR (op_ne_deep K rfl hU) (pv 3) (pe_lst (pa_cons (pv 1) (pa1 (pv 2)))) (nomark _)) (pss_one (ps_ret pe_bl)) pss_nil)⟩
      (qss_cons ⟨(pfU (pi_listK K rfl (pv 3)) (pgU 5 sc__law_used_right) (pss_one (ps_if (pt_cmpR op_notN (pv 5) pe_non (nomark _)) (pss_one (ps_expr (apU K (pv 5) pe_int))) pss_nil)))⟩
      (qss_one ⟨(ps_ret (pe_and (pcU U__law_numbers hr pass0 (pa_cons (ixL K (pv 4) pe_int) (pa1 (pcU U__law_either hr pass0 (pa_cons (pv 1) (pa1 (pv 2))))))) (pe_one (pcU U__law_numbers hr pass0 (pa_cons (ixL K (pv 4) pe_int) (pa1 (pcU U__law_both hr pass0 (pa_cons (pv 1) (pa1 (pv 2))))))))))⟩))))), ?_⟩
    refine ⟨_, rfl, x, ox, rfl, gx, kx, fun v1 H1 s1 g1 => ⟨_, rfl, y, oy, rfl, gy.same s1, ky, fun v2 H2 s2 g2 => ?_⟩⟩
    refine ⟨line1000 (by show 2 ≤ 1000; decide), fun l hl => ?_⟩
    obtain ⟨H3, e3, s3, hl3⟩ := newG (.lst [v1, v2]) hl
    rw [e3]
    dsimp only [gName]
    have s13 := s1.trans (s2.trans s3)
    have ix0 : ([v1, v2] : List V)[0]? = some v1 := rfl
    have ix1 : ([v1, v2] : List V)[1]? = some v2 := rfl
    have u1 := g1.uv.same (s2.trans s3)
    have u2 := g2.uv.same s3
    refine ⟨_, rfl, u, dx, _, rfl, s13 _ _ hu0, (by rfl), _, rfl, l, _, 0, _, rfl, rfl, SqL.of hl3, atI_nat (j := 0) ix0, _, rfl, l, _, 1, _, rfl, rfl, SqL.of hl3, atI_nat (j := 1) ix1, _, v1, v2, ox, oy, rfl, u1, u2, kx, ky, fun w1 H4 s4 f1 => ?_⟩
    refine ⟨_, rfl, u, dx, _, rfl, s4 _ _ (s13 _ _ hu0), (by rfl), _, rfl, l, _, 0, _, rfl, rfl, SqL.of (s4 _ _ hl3), atI_nat (j := 0) ix0, _, rfl, l, _, 1, _, rfl, rfl, SqL.of (s4 _ _ hl3), atI_nat (j := 1) ix1, _, v1, v2, ox, oy, rfl, u1.same s4, u2.same s4, kx, ky, fun w2 H5 s5 f2 => ?_⟩
    refine ⟨line1000 (by show 2 ≤ 1000; decide), fun fl hfl => ?_⟩
    obtain ⟨H6, e6, s6, hf6⟩ := newG (.lst [w1, w2]) hfl
    rw [e6]
    have s46 := (s4.trans s5).trans s6
    have s16 := s13.trans s46
    dsimp only [gName]
    refine ⟨_, rfl, _, rfl, _, rfl, line1000 (by show 2 ≤ 1000; decide), fun p hp => ?_⟩
    obtain ⟨H7, e7, s7, hp7⟩ := newG (.lst [x, y]) hp
    rw [e7]
    have ok2 : (D.lst [dO ox, dO oy]).ok = true := ok_lst fun d hd => by
      rcases List.mem_cons.mp hd with rfl | hd
      · exact dO_ok _
      · rw [List.mem_singleton.mp hd]; exact dO_ok _
    have dp2 : (D.lst [dO ox, dO oy]).dep ≤ 64 := Nat.le_trans (dep_lst (n := 1) fun d hd => by
      rcases List.mem_cons.mp hd with rfl | hd
      · exact dO_dep _
      · rw [List.mem_singleton.mp hd]; exact dO_dep _) (by decide)
    refine ⟨.lst [dO ox, dO oy], .lst [dO ox, dO oy], .lst (.inl (s7 _ _ (s46 _ _ hl3))) (.cons (u1.same (s46.trans s7)).den (.cons (u2.same (s46.trans s7)).den .nil)), .lst (.inl hp7) (.cons (gx.same (s16.trans s7)).den (.cons (gy.same (s16.trans s7)).den .nil)), ok2, ok2, dp2, _, rfl, ?_⟩
    rw [eqD_refl _ ok2]
    refine iteF ?_
    have n1 : ∀ a, v1 = .ref a → H a = none := fun a e => g1.nw e
    have n2 : ∀ a, v2 = .ref a → H a = none ∧ H1 a = none := fun a e => ⟨s1.free (g2.nw e), g2.nw e⟩
    have w1n : ∀ a, w1 = .ref a → H3 a = none := fun a e => f1.nw e
    have w2n : ∀ a, w2 = .ref a → H3 a = none := fun a e => s4.free (f2.nw e)
    have nl : H l = none := (s1.trans s2).free hl
    have fl3 : H3 fl = none := (s4.trans s5).free hfl
    refine ⟨_, rfl, l, rfl, ⟨_, SqL.of (s7 _ _ (s46 _ _ hl3))⟩, for_list (K := K) (a := l) (xs := [v1, v2]) (UrI H u l fl x y v1 v2 w1 w2 ox oy (eiU ox oy) (boU ox oy)) (.mk none rfl (s16.trans s7) (s7 _ _ (s46 _ _ hl3)) (s7 _ _ hf6) (f1.uv.same ((s5.trans s6).trans s7)) (f2.uv.same (s6.trans s7)) (fun _ => u1.same (s46.trans s7)) fun _ => u2.same (s46.trans s7)) ?_ ?_ ?_⟩
    · rintro i σ G _ ⟨v, _, _, gl, _⟩
      exact SqL.of gl
    · rintro i vk σ G hi ⟨v, rfl, s, gl, gf, k1, k2, k3, k4⟩
      have ne3 : ∀ {a b : Addr} {z : HO}, H3 a = some z → H3 b = none → b ≠ a := fun h1 h2 => Ne.symm (ne_of_none h1 h2)
      have hx1 : ∀ z a, ox = some z → v1 = .ref a → ∃ z, H1 a = some z ∧ H2 a = some z ∧ H3 a = some z := fun z a e1 e2 => by
        subst e1
        obtain ⟨a', e', _, ha'⟩ := g1
        cases e'.symm.trans e2
        exact ⟨_, ha', s2 _ _ ha', s3 _ _ (s2 _ _ ha')⟩
      have hx2 : ∀ z a, oy = some z → v2 = .ref a → ∃ z, H2 a = some z ∧ H3 a = some z := fun z a e1 e2 => by
        subst e1
        obtain ⟨a', e', _, ha'⟩ := g2
        cases e'.symm.trans e2
        exact ⟨_, ha', s3 _ _ ha'⟩
      match i, hi with
      | 0, hi =>
        cases hi
        refine turn42 rfl (k3 rfl) (fun z e => (kx z e).len) (fun _ => .mk _ rfl s gl gf k1 k2 (fun z => nomatch z) fun _ => k4 (by decide)) fun z a e1 e2 _ => ?_
        obtain ⟨z, q1, q2, q3⟩ := hx1 z a e1 e2
        exact .mk _ rfl (s.put (n1 a e2)) (by rw [upd_ne (Ne.symm (ne_of_none q2 hl))]; exact gl) (by rw [upd_ne (ne3 q3 fl3)]; exact gf) (k1.up fun c e => ne3 q3 (w1n c e)) (k2.up fun c e => ne3 q3 (w2n c e)) (fun z => nomatch z) fun _ => (k4 (by decide)).up fun c e => Ne.symm (ne_of_none q1 (n2 c e).2)
      | 1, hi =>
        cases hi
        refine turn42 rfl (k4 (Nat.le_refl _)) (fun z e => (ky z e).len) (fun _ => .mk _ rfl s gl gf k1 k2 (fun z => nomatch z) fun z => absurd z (by decide)) fun z a e1 e2 _ => ?_
        obtain ⟨z, q2, q3⟩ := hx2 z a e1 e2
        exact .mk _ rfl (s.put (n2 a e2).1) (by rw [upd_ne (Ne.symm (ne_of_none q2 hl))]; exact gl) (by rw [upd_ne (ne3 q3 fl3)]; exact gf) (k1.up fun c e => ne3 q3 (w1n c e)) (k2.up fun c e => ne3 q3 (w2n c e)) (fun z => nomatch z) fun z => absurd z (by decide)
      | i + 2, hi => cases hi
    · rintro σ G ⟨v, rfl, s, gl, gf, k1, k2, k3, k4⟩
      refine ⟨_, rfl, fl, _, 0, _, rfl, rfl, SqL.of gf, atI_nat (j := 0) rfl, _, rfl, _, rfl, x, y, ox, oy, rfl, gx.same s, gy.same s, kx, ky, fun w3 G2 t2 f3 => ⟨w1, w3, _, rfl, k1.same t2, f3.uv, _, rfl, ?_⟩⟩
      exact iteT ⟨_, rfl, fl, _, 1, _, rfl, rfl, SqL.of (t2 _ _ gf), atI_nat (j := 1) rfl, _, rfl, _, rfl, x, y, ox, oy, rfl, gx.same (s.trans t2), gy.same (s.trans t2), kx, ky, fun w4 G3 t3 f4 => ⟨w2, w4, _, rfl, k2.same (t2.trans t3), f4.uv, q _ (s.trans (t2.trans t3))⟩⟩
end
end FR


set_option linter.all false
set_option Elab.async false
set_option maxRecDepth 100000
set_option maxHeartbeats 4000000
namespace FR
open PySem L2
theorem nd_K42e__law_behind__law_row : (["_law_behind", "_law_row"] : List Str).Nodup := by decide +kernel
theorem nd_K42e__law_row : (["_law_row"] : List Str).Nodup := by decide +kernel
section
variable {P : Program} {w : World} {K : PySem.W.Frag} {mg : Str → Option Value} {base : Heap} {C : Adr}
theorem sc__law_lists : FnScope ["_law_found", "_law_due", "_law_k"] ["_law_found", "_law_due"] (defScope s__law_lists) := scU
theorem ok__law_lists {f : Addr} {fd : FuncData} (F : Fun K "_law_lists" "_law_lists" s__law_lists f fd) (T : Txt K mg C) (U__law_numbers : Used P w K mg CX0 1 "_law_numbers" ["_law_found", "_law_due"] (spNumbers)) : FnOk P w K mg base CX0 2 f fd ["_law_found", "_law_due"] (spLists) := by
  refine F.ok sc__law_lists (fun vs H Q E h => ?_) (fun cdv A outer s H vs Q E hr h => ?_)
  · obtain ⟨a, b, A, rfl, _⟩ := h
    rfl
  · obtain ⟨a, b, A, rfl, ⟨ts, ha, hA⟩, ⟨us, hb, hB⟩, hz, q⟩ := h
    have hu := hu_of hr
    have hU := hr.units
    refine qex ?_
    refine ⟨_, (qss_cons ⟨(ps_if (PW.pt (pw_or (pt_not (pt_val (pe_callB (call_isiK K rfl) (by rfl) T.z_isinstance PyProof.Rows.Boot.«isinstance» (pa_cons (pv 0) (pa1 (pe_bltn (v := .ty "list") (by rfl) T.z_list PyProof.Rows.Boot.«list» rfl)))))) (pw_or1 (pt_cmpR op_ne (lnU K T.z_len (pv 0)) (lnU K T.z_len (pv 1)) (nomark _))))) (pss_one (ps_ret pe_bl)) pss_nil)⟩
      (qss_cons ⟨(pfU (pi_range1 rfl T.z_range (pa1 (lnU K T.z_len (pv 1)))) (pgU 2 sc__law_lists) (pss_one (ps_if (pt_not (pt_val (pcU U__law_numbers hr pass0 (pa_cons (ixL K (pv 0) (pv 2)) (pa1 (ixL K (pv 1) (pv 2))))))) (pss_one (ps_ret pe_bl)) pss_nil)))⟩
      (qss_one ⟨(ps_ret pe_bl)⟩))), ?_⟩
    have lt := hA.len
    have lu := hB.len
    refine ⟨_, rfl, _, _, _, _, _, rfl, .lst ha, rfl, kit_list (.lst []), _, rfl, iteF ⟨_, rfl, a, _, rfl, .inl (SqL.of ha), _, rfl, b, _, rfl, .inl (SqL.of hb), rfl, _, rfl, ?_⟩⟩
    rw [List.length_map, List.length_map, lt, lu, decide_eq_true rfl]
    refine iteF ⟨_, rfl, b, _, rfl, .inl (SqL.of hb), _, rfl, ?_, ?_, ?_⟩
    · lia
    · rw [List.length_map]
      lia
    rw [List.length_map]
    refine for_range (n := us.length) (fun i σ G => (∃ v, σ = [some (.ref a), some (.ref b), v]) ∧ H = G) ⟨⟨none, rfl⟩, rfl⟩ ?_ ?_
    · rintro i σ G hi ⟨⟨v, rfl⟩, rfl⟩
      have hti : ts[i]? = some ts[i] := List.getElem?_eq_getElem (by lia)
      have hui : us[i]? = some us[i] := List.getElem?_eq_getElem hi
      obtain ⟨r, r1, r2⟩ := hA.get hti
      obtain ⟨r', r3, r4⟩ := hB.get hui
      cases r1.symm.trans r3
      have i1 : (ts.map V.ref)[i]? = some (.ref ts[i]) := by rw [List.getElem?_map, hti]; rfl
      have i2 : (us.map V.ref)[i]? = some (.ref us[i]) := by rw [List.getElem?_map, hui]; rfl
      have j1 : atI (ts.map V.ref) (0 + (i : Int)) = some (.ref ts[i]) := by rw [Int.zero_add]; exact atI_nat i1
      have j2 : atI (us.map V.ref) (0 + (i : Int)) = some (.ref us[i]) := by rw [Int.zero_add]; exact atI_nat i2
      refine ⟨_, rfl, _, rfl, a, _, _, _, rfl, rfl, SqL.of ha, j1, _, rfl, _, rfl, b, _, _, _, rfl, rfl, SqL.of hb, j2, _, _, some r, rfl, ⟨_, rfl, r2⟩, ⟨_, rfl, r4⟩, _, rfl, iteF ⟨⟨_, rfl⟩, rfl⟩⟩
    · rintro σ G ⟨⟨v, rfl⟩, rfl⟩
      exact q
theorem sc__law_joined : FnScope ["_law_one", "_law_other", "_law_rows_here", "_law_row"] ["_law_one", "_law_other"] (defScope s__law_joined) := scU
theorem ok__law_joined {f : Addr} {fd : FuncData} (F : Fun K "_law_joined" "_law_joined" s__law_joined f fd) (T : Txt K mg C) : FnOk P w K mg base CX0 1 f fd ["_law_one", "_law_other"] (spJoined) := by
  refine F.ok sc__law_joined (fun vs H Q E h => ?_) (fun cdv A outer s H vs Q E hr h => ?_)
  · obtain ⟨a, b, B, D, rfl, _⟩ := h
    rfl
  · obtain ⟨a, b, B, D, rfl, ⟨gs, ha, hB⟩, ⟨bs, hb, hD⟩, lB, lD, r5, d5, q⟩ := h
    have hu := hu_of hr
    have hU := hr.units
    refine qex ?_
    refine ⟨_, (qss_cons (qsU 2 sc__law_joined (qe_lst qa_nil))
      (qss_cons ⟨(pfU (pi_listK K rfl (pv 0)) (pgU 3 sc__law_joined) (pss_one (ps_expr (pe_bmK K rfl PySem.F.plainAttrs_list PySem.F.slot_list_extend PySem.F.type_list_extend mt_extend (pv 2) (pa1 (pe_comp (N := ["_law_behind", "_law_row"]) (ρ := [none, some 3]) rfl (CompScope.closes ["_law_one", "_law_other", "_law_rows_here", "_law_row"] (defScope s__law_joined).names rfl rfl rfl rfl (by decide +kernel) (by decide +kernel) (fun x h => cell_has h) (by decide +kernel) rfl (by decide +kernel)) (pi_listK K rfl (pv 1)) (fun _ _ _ _ _ => (pg_name (i := 0) nd_K42e__law_behind__law_row rfl (Or.inl rfl) (.inr rfl))) (fun _ _ _ _ _ => pts_nil) (fun _ _ _ _ _ => (pe_op op_cat (pv 1) (pv 0)))))))))⟩
      (qss_one ⟨(ps_ret (pe_callB (call_sortedLx hU) (by rfl) T.z_sorted PyProof.Rows.Boot.«sorted» (pa1 (pv 2))))⟩))), ?_⟩
    refine ⟨line1000 (by decide), fun l hl => ?_⟩
    obtain ⟨G1, e1, s1, hl1⟩ := newG (.lst []) hl
    rw [e1]
    have lg := hB.len
    have ld := hD.len
    dsimp only [gName]
    refine ⟨_, rfl, a, rfl, ⟨_, SqL.of (s1 _ _ ha)⟩, for_list (K := K) (a := a) (xs := gs.map V.ref) (fun i σ G => Same H G ∧ ∃ us v, σ = [some (.ref a), some (.ref b), some (.ref l), v] ∧ G l = some (.lst (us.map V.ref)) ∧ us.length ≤ i * 60 ∧ (∀ u ∈ us, u ≠ l ∧ H u = none) ∧ RwA G us (prs (B.take i) D))
      ⟨s1, [], none, rfl, hl1, Nat.zero_le _, (fun t z => nomatch z), rfl⟩ ?_ ?_ ?_⟩
    · rintro i σ G _ ⟨s, _⟩
      exact SqL.of (s _ _ ha)
    · rintro i v σ G hi ⟨s, us, v3, rfl, gl, glen, gne, gR⟩
      rw [List.getElem?_map] at hi
      obtain ⟨t, hti, rfl⟩ := Option.map_eq_some_iff.mp hi
      have hig : i < gs.length := (List.getElem?_eq_some_iff.mp hti).1
      obtain ⟨row, rw1, rw2⟩ := hB.get hti
      have row5 := r5 row (List.mem_of_getElem? rw1)
      refine ⟨_, rfl, .inl ⟨rfl, _, SqL.of gl⟩, _, rfl, b, rfl, ⟨_, SqL.of (s _ _ hb)⟩, fun c hc => comp_rw 0 D (fun r => row ++ r) (SqL.of (s _ _ hb)) (hD.same s) hc (by show 0 < 2; decide) (by lia) (fun τ => τ[1]? = some (some (.ref t))) rfl (fun τ' v h => by rw [List.getElem?_set_ne (by decide)]; exact h) ?_ ?_⟩
      · intro τ' t2 r H' Rk hk hx hrD hr2 s' kk
        have := d5 r hrD
        exact ⟨_, hk, _, hx, t, t2, _, _, rfl, rfl, s' _ _ (s _ _ rw2), s' _ _ hr2, by rw [List.length_map, List.length_map, sizeLine_eq]; lia, fun p hp => kk p _ (Same.upd hp) hp (by rw [upd_same, ← List.map_append])⟩
      · intro ws H' hnew s' hR' hc'
        have hw := hR'.len
        rw [List.length_map] at hw
        refine ⟨l, c, _, _, rfl, rfl, s' _ _ gl, hc', by rw [List.length_map, List.length_map, sizeLine_eq]; lia, ?_⟩
        have ne2 : ∀ u ∈ us ++ ws, u ≠ l ∧ H u = none := fun u z => by
          rcases List.mem_append.mp z with z | z
          · exact gne u z
          · exact ⟨Ne.symm (ne_of_none gl (hnew u z)), s.free (hnew u z)⟩
        refine ⟨(s.trans s').put hl, us ++ ws, _, rfl, by rw [upd_same, List.map_append], by rw [List.length_append]; lia, ne2, RwA.up ?_ fun u z => (ne2 u z).1⟩
        rw [List.take_add_one, rw1, prs_app]
        refine (gR.same s').app ?_
        show RwA H' ws (List.flatten [D.map fun b => row ++ b])
        rw [List.flatten_singleton]
        exact hR'
    · rintro σ G ⟨s, us, v3, rfl, gl, glen, gne, gR⟩
      rw [List.length_map, lg, List.take_length] at gR
      refine ⟨_, rfl, l, us, _, rfl, gl, gR, fun l2 ts' nl2 hp hR2 => q _ _ (s.trans (Same.upd nl2)) ⟨l2, ts', rfl, s.free nl2, upd_same, hR2.same (Same.upd nl2), fun t z => (gne t (hp.mem_iff.mp z)).2⟩⟩
end
inductive spListedRight_ (CL : Addr) (vs : List V) (H : Hp) (Q : VK) : Prop where
  | mk (tl dx a b : Addr) (m : Nat) (A B : Rws) (h0_ : vs = [.ref tl, .ref a, .ref b, .int m]) (h1_ : H tl = some (.ins CL dx [("most", .int m)])) (h2_ : LL H a A) (h3_ : LL H b B) (h4_ : m ≤ 60) (h5_ : A.length ≤ m) (h6_ : B.length ≤ m) (h7_ : SrR A) (h8_ : SrR B) (h9_ : (∀ r ∈ A, r.length ≤ 500)) (h10_ : (∀ r ∈ B, r.length ≤ 500)) (h11_ : ∀ H', Same H H' → Q (.bl true) H') : spListedRight_ CL vs H Q
def spListedRight (CL : Addr) : Sp := fun vs H Q E_ => spListedRight_ CL vs H Q
def dR (A : Rws) : D := .lst (A.map fun r => .lst (r.map D.int))
theorem rw_dens {H : Hp} : ∀ {ts : List Addr} {A : Rws}, RwA H ts A → Dens H (ts.map V.ref) (A.map fun r => .lst (r.map D.int))
  | [], [], _ => .nil
  | t :: ts, r :: A, h => by
    obtain ⟨h1, h2⟩ := List.cons.inj (show H t :: ts.map H = rwO r :: A.map rwO from h)
    exact .cons (.lst (.inl h1) (Dens.ints r)) (rw_dens (show ts.map H = _ from h2))
  | [], _ :: _, h => by cases h
  | _ :: _, [], h => by cases h
theorem LL.den {H : Hp} {a : Addr} {A : Rws} (h : LL H a A) : Den H (.ref a) (dR A) := by
  obtain ⟨ts, h1, h2⟩ := h
  exact .lst (.inl h1) (rw_dens h2)
theorem dR_ok (A : Rws) : (dR A).ok = true ∧ (dR A).dep ≤ 2 := ⟨ok_lst fun d hd => by
  obtain ⟨r, _, rfl⟩ := List.mem_map.mp hd
  exact ok_intsD r, dep_lst (n := 1) fun d hd => by
  obtain ⟨r, _, rfl⟩ := List.mem_map.mp hd
  exact dep_intsD r⟩
theorem dR2 (A B : Rws) : (D.lst [dR A, dR B]).ok = true ∧ (D.lst [dR A, dR B]).dep ≤ 64 := by
  have h : ∀ d ∈ [dR A, dR B], d.ok = true ∧ d.dep ≤ 2 := fun d hd => by
    rcases List.mem_cons.mp hd with rfl | hd
    · exact dR_ok _
    · rw [List.mem_singleton.mp hd]; exact dR_ok _
  exact ⟨ok_lst fun d hd => (h d hd).1, Nat.le_trans (dep_lst (n := 2) fun d hd => (h d hd).2) (by decide)⟩

inductive LrI (H H3 : Hp) (tl a b : Addr) (m : Nat) (l fl d f1 f2 : Addr) (ts t1 t2 : List Addr) (X Y : Rws) (i : Nat) (σ : St) (G : Hp) : Prop
  | mk (v : Option V) : σ = [some (.ref tl), some (.ref a), some (.ref b), some (.int m), v, some (.ref l), some (.ref fl)] → Same H G → G d = some (.lst (ts.map V.ref)) → G fl = some (.lst [.ref f1, .ref f2]) → G f1 = some (.lst (t1.map V.ref)) → G f2 = some (.lst (t2.map V.ref)) → RwA G t1 X → RwA G t2 Y → (∀ t ∈ ts, ∃ r, G t = rwO r ∧ r.length ≤ 500 + i) → LrI H H3 tl a b m l fl d f1 f2 ts t1 t2 X Y i σ G
inductive spBegun_ (CU : Addr) (CL : Addr) (vs : List V) (H : Hp) (Q : VK) : Prop where
  | mk (u dx tl dy : Addr) (m : V) (n : Int) (k : V) (h0_ : vs = [.ref u, .ref tl, .int n, k]) (h1_ : H u = some (.ins CU dx [])) (h2_ : H tl = some (.ins CL dy [("most", m)])) (h3_ : ∀ H', Same H H' → Q (.bl true) H') : spBegun_ CU CL vs H Q
def spBegun (CU CL : Addr) : Sp := fun vs H Q E_ => spBegun_ CU CL vs H Q
section
variable {P : Program} {w : World} {K : PySem.W.Frag} {mg : Str → Option Value} {base : Heap} {C : Adr}
theorem sc__law_listed_right : FnScope ["_law_listed", "_law_one", "_law_other", "_law_many", "_law_row", "_law_handed", "_law_found"] ["_law_listed", "_law_one", "_law_other", "_law_many"] (defScope s__law_listed_right) := scU
theorem ok__law_listed_right {f : Addr} {fd : FuncData} (F : Fun K "_law_listed_right" "_law_listed_right" s__law_listed_right f fd) (T : Txt K mg C) (U__law_lists : Used P w K mg CX0 2 "_law_lists" ["_law_found", "_law_due"] (spLists)) (U__law_joined : Used P w K mg CX0 1 "_law_joined" ["_law_one", "_law_other"] (spJoined)) (U_Listed_both : UsedM P w K mg CX0 3 C.Listed "both" ["self", "one", "other"] (spLB C.Listed)) (U_Listed_either : UsedM P w K mg CX0 1 C.Listed "either" ["self", "one", "other"] (spLE C.Listed)) : FnOk P w K mg base CX0 4 f fd ["_law_listed", "_law_one", "_law_other", "_law_many"] (spListedRight C.Listed) := by
  refine F.ok sc__law_listed_right (fun vs H Q E h => ?_) (fun cdv A outer s H vs Q E hr h => ?_)
  · obtain ⟨tl, dx, a, b, m, A, B, rfl, _⟩ := h
    rfl
  · obtain ⟨tl, dx, a, b, m, A, B, rfl, htl, ⟨ta, ha, hA⟩, ⟨tb, hb, hB⟩, hm, lA, lB, sA, sB, A5, B5, q⟩ := h
    have hu := hu_of hr
    have hU := hr.units
    refine qex ?_
    refine ⟨_, (qss_cons ⟨(psU 5 sc__law_listed_right (pe_lst (pa_cons (pe_comp (N := ["_law_row"]) (ρ := [none]) (cl := []) rfl cpU (pi_listK K rfl (pv 1)) (fun _ _ _ _ _ => (pg_name (i := 0) nd_K42e__law_row rfl (Or.inl rfl) (.inr rfl))) (fun _ _ _ _ _ => pts_nil) (fun _ _ _ _ _ => (pe_callTy (call_list_ofK K rfl) (by rfl) T.z_list PyProof.Rows.Boot.«list» (pa1 (pv 0))))) (pa1 (pe_comp (N := ["_law_row"]) (ρ := [none]) (cl := []) rfl cpU (pi_listK K rfl (pv 2)) (fun _ _ _ _ _ => (pg_name (i := 0) nd_K42e__law_row rfl (Or.inl rfl) (.inr rfl))) (fun _ _ _ _ _ => pts_nil) (fun _ _ _ _ _ => (pe_callTy (call_list_ofK K rfl) (by rfl) T.z_list PyProof.Rows.Boot.«list» (pa1 (pv 0)))))))))⟩
      (qss_cons ⟨(psU 6 sc__law_listed_right (pe_lst (pa_cons (pmU (pv 0) T.cl_Listed U_Listed_either hr pass0 (pa_cons (ixL K (pv 5) pe_int) (pa1 (ixL K (pv 5) pe_int)))) (pa1 (pmU (pv 0) T.cl_Listed U_Listed_both hr pass0 (pa_cons (ixL K (pv 5) pe_int) (pa1 (ixL K (pv 5) pe_int))))))))⟩
      (qss_cons ⟨(ps_if (pt_cmpR (op_ne_deep K rfl hU) (pv 5) (pe_lst (pa_cons (pv 1) (pa1 (pv 2)))) (nomark _)) (pss_one (ps_ret pe_bl)) pss_nil)⟩
      (qss_cons ⟨(pfU (pi_listK K rfl (pe_op op_cat (ixL K (pv 5) pe_int) (ixL K (pv 5) pe_int))) (pgU 4 sc__law_listed_right) (pss_one (ps_expr (apU K (pv 4) pe_int))))⟩
      (qss_cons ⟨(ps_if (pt_not (pt_val (pcU U__law_lists hr pass0 (pa_cons (ixL K (pv 6) pe_int) (pa1 (pe_slice (sl_listK K rfl) (pe_callB (call_sortedLx hU) (by rfl) T.z_sorted PyProof.Rows.Boot.«sorted» (pa1 (pe_op op_cat (pv 1) (pv 2)))) po_none (po_some (pv 3)))))))) (pss_one (ps_ret pe_bl)) pss_nil)⟩
      (qss_one ⟨(ps_ret (pcU U__law_lists hr pass0 (pa_cons (ixL K (pv 6) pe_int) (pa1 (pe_slice (sl_listK K rfl) (pcU U__law_joined hr pass0 (pa_cons (pv 1) (pa1 (pv 2)))) po_none (po_some (pv 3)))))))⟩)))))), ?_⟩
    have la := hA.len
    have lb := hB.len
    refine ⟨_, rfl, a, rfl, ⟨_, SqL.of ha⟩, fun c1 nc1 => comp_rw 0 A id (SqL.of ha) hA nc1 (by show 0 < 1; decide) (by lia) (fun _ => True) trivial (fun _ _ _ => trivial) (fun τ' t r H' Rk _ hx _ hr2 s' kk => ⟨_, hx, t, _, rfl, .inl (SqL.of (s' _ _ hr2)), fun l hl => kk l _ (Same.upd hl) hl upd_same⟩) ?_⟩
    intro us H1 hn1 s1 hR1 hc1
    rw [List.map_id] at hR1
    refine ⟨_, rfl, b, rfl, ⟨_, SqL.of (s1 _ _ hb)⟩, fun c2 nc2 => comp_rw 0 B id (SqL.of (s1 _ _ hb)) (hB.same s1) nc2 (by show 0 < 1; decide) (by lia) (fun _ => True) trivial (fun _ _ _ => trivial) (fun τ' t r H' Rk _ hx _ hr2 s' kk => ⟨_, hx, t, _, rfl, .inl (SqL.of (s' _ _ hr2)), fun l hl => kk l _ (Same.upd hl) hl upd_same⟩) ?_⟩
    intro vs H2 hn2 s2 hR2 hc2
    rw [List.map_id] at hR2
    refine ⟨line1000 (by show 2 ≤ 1000; decide), fun l hl => ?_⟩
    obtain ⟨H3, e3, s3, hl3⟩ := newG (.lst [.ref c1, .ref c2]) hl
    rw [e3]
    dsimp only [gName]
    have s13 := s1.trans (s2.trans s3)
    have k1 : LL H3 c1 A := ⟨us, s3 _ _ (s2 _ _ hc1), hR1.same (s2.trans s3)⟩
    have k2 : LL H3 c2 B := ⟨vs, s3 _ _ hc2, hR2.same s3⟩
    have AB5 : ∀ r ∈ A ++ B, r.length ≤ 500 := fun r z => (List.mem_append.mp z).elim (A5 r) (B5 r)
    refine ⟨_, rfl, tl, dx, _, rfl, s13 _ _ htl, (by rfl), _, rfl, l, _, 0, _, rfl, rfl, SqL.of hl3, atI_nat (j := 0) rfl, _, rfl, l, _, 1, _, rfl, rfl, SqL.of hl3, atI_nat (j := 1) rfl, tl, dx, c1, c2, m, A, B, rfl, s13 _ _ htl, k1, k2, by lia, by lia, AB5, fun w1 H4 s4 f1 => ?_⟩
    refine ⟨_, rfl, tl, dx, _, rfl, s4 _ _ (s13 _ _ htl), (by rfl), _, rfl, l, _, 0, _, rfl, rfl, SqL.of (s4 _ _ hl3), atI_nat (j := 0) rfl, _, rfl, l, _, 1, _, rfl, rfl, SqL.of (s4 _ _ hl3), atI_nat (j := 1) rfl, tl, dx, c1, c2, m, A, B, rfl, s4 _ _ (s13 _ _ htl), k1.same s4, k2.same s4, by lia, by lia, lB, sA, sB, A5, B5, fun w2 H5 s5 f2 => ?_⟩
    obtain ⟨f1, t1, rfl, n1, h1, R1, N1⟩ := f1
    obtain ⟨f2, t2, rfl, n2, h2, R2, N2⟩ := f2
    replace n2 := s4.free n2
    replace N2 := fun t z => s4.free (N2 t z)
    refine ⟨line1000 (by show 2 ≤ 1000; decide), fun fl hfl => ?_⟩
    obtain ⟨H6, e6, s6, hf6⟩ := newG (.lst [.ref f1, .ref f2]) hfl
    rw [e6]
    have s46 := (s4.trans s5).trans s6
    have s16 := s13.trans s46
    dsimp only [gName]
    refine ⟨_, rfl, _, rfl, _, rfl, line1000 (by show 2 ≤ 1000; decide), fun p hp => ?_⟩
    obtain ⟨H7, e7, s7, hp7⟩ := newG (.lst [.ref a, .ref b]) hp
    rw [e7]
    have s17 := s16.trans s7
    have kA : LL H a A := ⟨ta, ha, hA⟩
    have kB : LL H b B := ⟨tb, hb, hB⟩
    refine ⟨.lst [dR A, dR B], .lst [dR A, dR B], .lst (.inl (s7 _ _ (s46 _ _ hl3))) (.cons (k1.same (s46.trans s7)).den (.cons (k2.same (s46.trans s7)).den .nil)), .lst (.inl hp7) (.cons (kA.same s17).den (.cons (kB.same s17).den .nil)), (dR2 A B).1, (dR2 A B).1, (dR2 A B).2, _, rfl, ?_⟩
    rw [eqD_refl _ (dR2 A B).1]
    refine iteF ?_
    have hl7 := s7 _ _ (s46 _ _ hl3)
    have c17 := (s46.trans s7) _ _ (s3 _ _ (s2 _ _ hc1))
    have c27 := (s46.trans s7) _ _ (s3 _ _ hc2)
    refine ⟨_, rfl, l, _, 0, _, rfl, rfl, SqL.of hl7, atI_nat (j := 0) rfl, _, rfl, l, _, 1, _, rfl, rfl, SqL.of hl7, atI_nat (j := 1) rfl, c1, c2, _, _, rfl, rfl, c17, c27, by rw [List.length_map, List.length_map, sizeLine_eq, hR1.len, hR2.len]; lia, fun d nd => ?_⟩
    rw [← List.map_append]
    obtain ⟨H8, e8, s8, hd8⟩ := newG (.lst ((us ++ vs).map V.ref)) nd
    rw [e8]
    have s38 := (s46.trans s7).trans s8
    have old : ∀ t ∈ us ++ vs, H t = none ∧ ∃ r, H3 t = rwO r ∧ r.length ≤ 500 := fun t z => by
      rcases List.mem_append.mp z with z | z
      · obtain ⟨r, z1, z2⟩ := hR1.row z
        exact ⟨hn1 t z, r, s3 _ _ (s2 _ _ z2), A5 r z1⟩
      · obtain ⟨r, z1, z2⟩ := hR2.row z
        exact ⟨s1.free (hn2 t z), r, s3 _ _ z2, B5 r z1⟩
    have lus := hR1.len
    have lvs := hR2.len
    have d3 : H3 d = none := (s46.trans s7).free nd
    have fl3 : H3 fl = none := (s4.trans s5).free hfl
    refine ⟨d, rfl, ⟨_, SqL.of hd8⟩, for_list (K := K) (a := d) (xs := (us ++ vs).map V.ref) (LrI H H3 tl a b m l fl d f1 f2 (us ++ vs) t1 t2 ((srt (A ++ B)).take m) ((srt (prs A B)).take m)) (.mk none rfl (s17.trans s8) hd8 (s8 _ _ (s7 _ _ hf6)) (s8 _ _ (s7 _ _ (s6 _ _ (s5 _ _ h1)))) (s8 _ _ (s7 _ _ (s6 _ _ h2))) (R1.same ((s5.trans s6).trans (s7.trans s8))) (R2.same (s6.trans (s7.trans s8))) fun t z => ?_) ?_ ?_ ?_⟩
    · obtain ⟨_, r, z1, z2⟩ := old t z
      exact ⟨r, s38 _ _ z1, z2⟩
    · rintro i σ G _ ⟨v, _, _, gd, _⟩
      exact SqL.of gd
    · rintro i vk σ G hi ⟨v, rfl, s, gd, gf, g1, g2, G1, G2, gt⟩
      rw [List.getElem?_map] at hi
      obtain ⟨t, hti, rfl⟩ := Option.map_eq_some_iff.mp hi
      have hlt := (List.getElem?_eq_some_iff.mp hti).1
      rw [List.length_append] at hlt
      have tin := List.mem_of_getElem? hti
      obtain ⟨z0, r3, z1, _⟩ := old t tin
      obtain ⟨r, z2, z3⟩ := gt t tin
      have nt : ∀ {c : Addr}, H3 c = none → c ≠ t := fun h => Ne.symm (ne_of_none z1 h)
      refine ⟨_, rfl, .inl ⟨rfl, _, SqL.of z2⟩, t, _, _, rfl, rfl, z2, by rw [List.length_map, sizeLine_eq]; lia, ?_⟩
      refine .mk _ rfl (s.put z0) (by rw [upd_ne (nt d3)]; exact gd) (by rw [upd_ne (nt fl3)]; exact gf) (by rw [upd_ne (nt n1)]; exact g1) (by rw [upd_ne (nt n2)]; exact g2) (G1.up fun c z => nt (N1 c z)) (G2.up fun c z => nt (N2 c z)) fun c z => ?_
      by_cases e : c = t
      · subst e
        exact ⟨r ++ [60], by rw [upd_same, rwO, List.map_append]; rfl, by rw [List.length_append]; show r.length + 1 ≤ _; lia⟩
      · obtain ⟨r', y1, y2⟩ := gt c z
        exact ⟨r', by rw [upd_ne e]; exact y1, by lia⟩
    · rintro σ G ⟨v, rfl, s, gd, gf, g1, g2, G1, G2, gt⟩
      refine ⟨_, rfl, fl, _, 0, _, rfl, rfl, SqL.of gf, atI_nat (j := 0) rfl, _, rfl, _, rfl, a, b, _, _, rfl, rfl, s _ _ ha, s _ _ hb, by rw [List.length_map, List.length_map, sizeLine_eq]; lia, fun p2 np2 => ?_⟩
      rw [← List.map_append]
      obtain ⟨G3, e9, s9, h9⟩ := newG (.lst ((ta ++ tb).map V.ref)) np2
      rw [e9]
      refine ⟨p2, ta ++ tb, A ++ B, rfl, h9, ((hA.same s).same s9).app ((hB.same s).same s9), fun q1 ts' nq1 hpm hRq => ?_⟩
      obtain ⟨G4, e10, s10, h10⟩ := newG (.lst (ts'.map V.ref)) nq1
      rw [e10]
      refine ⟨_, rfl, m, rfl, q1, _, rfl, SqL.of h10, fun q2 nq2 => ?_⟩
      rw [cut_take]
      obtain ⟨G5, e11, s11, h11⟩ := newG (.lst ((ts'.take m).map V.ref)) nq2
      rw [e11]
      have t5 := (s9.trans s10).trans s11
      refine ⟨f1, q2, _, rfl, ⟨t1, t5 _ _ g1, G1.same t5⟩, ⟨_, h11, (hRq.same (s10.trans s11)).take m⟩, by rw [List.length_take]; lia, _, rfl, iteF ?_⟩
      have s5' := s.trans t5
      refine ⟨_, rfl, fl, _, 1, _, rfl, rfl, SqL.of (t5 _ _ gf), atI_nat (j := 1) rfl, _, rfl, _, rfl, a, b, A, B, rfl, kA.same s5', kB.same s5', by lia, by lia, A5, B5, fun v G6 s12 hL => ?_⟩
      obtain ⟨q3, ts3, rfl, nq3, h12, R12, _⟩ := hL
      refine ⟨_, rfl, m, rfl, q3, _, rfl, SqL.of h12, fun q4 nq4 => ?_⟩
      rw [cut_take]
      exact ⟨f2, q4, _, rfl, ⟨t2, Same.upd nq4 _ _ (s12 _ _ (t5 _ _ g2)), G2.same (t5.trans (s12.trans (Same.upd nq4)))⟩, ⟨_, upd_same, (R12.same (Same.upd nq4)).take m⟩, by rw [List.length_take]; lia, q _ (s5'.trans (s12.trans (Same.upd nq4)))⟩
end
end FR


set_option linter.all false
set_option Elab.async false
set_option maxRecDepth 100000
set_option maxHeartbeats 4000000
namespace FR
open PySem L2

section
variable {P : Program} {w : World} {K : PySem.W.Frag} {mg : Str → Option Value} {base : Heap} {C : Adr}
theorem sc__law_begun : FnScope ["_law_used_here", "_law_listed", "_law_number", "_law_worth"] ["_law_used_here", "_law_listed", "_law_number", "_law_worth"] (defScope s__law_begun) := scU
theorem ok__law_begun {f : Addr} {fd : FuncData} (F : Fun K "_law_begun" "_law_begun" s__law_begun f fd) (T : Txt K mg C) (U__law_lists : Used P w K mg CX0 2 "_law_lists" ["_law_found", "_law_due"] (spLists)) (U__law_numbers : Used P w K mg CX0 1 "_law_numbers" ["_law_found", "_law_due"] (spNumbers)) (U_Used_blank : UsedM P w K mg CX0 1 C.Used "blank" ["self"] (spUB)) (U_Used_nothing : UsedM P w K mg CX0 1 C.Used "nothing" ["self"] (spSelf .non)) (U_Listed_nothing : UsedM P w K mg CX0 1 C.Listed "nothing" ["self"] (spLN [])) (U_Used_of_rule : UsedM P w K mg CX0 1 C.Used "of_rule" ["self", "number", "worth"] (spUR)) (U_Listed_of_rule : UsedM P w K mg CX0 1 C.Listed "of_rule" ["self", "number", "worth"] (spLR)) (U_Listed_blank : UsedM P w K mg CX0 1 C.Listed "blank" ["self"] (spLN [[]])) : FnOk P w K mg base CX0 3 f fd ["_law_used_here", "_law_listed", "_law_number", "_law_worth"] (spBegun C.Used C.Listed) := by
  refine F.ok sc__law_begun (fun vs H Q E h => ?_) (fun cdv A outer s H vs Q E hr h => ?_)
  · obtain ⟨u, dx, tl, dy, m, n, k, rfl, _⟩ := h
    rfl
  · obtain ⟨u, dx, tl, dy, m, n, k, rfl, hu0, ht0, q⟩ := h
    have hu := hu_of hr
    have hU := hr.units
    refine qex ?_
    refine ⟨_, (qss_cons ⟨(ps_if (PW.pt (pw_or (pt_cmpR op_notN (pmU0 (pv 0) T.cl_Used U_Used_nothing hr pass0) pe_non (nomark _)) (pw_or1 (pt_not (pt_val (pcU U__law_numbers hr pass0 (pa_cons (pmU0 (pv 0) T.cl_Used U_Used_blank hr pass0) (pa1 (pe_lst pa_nil))))))))) (pss_one (ps_ret pe_bl)) pss_nil)⟩
      (qss_cons ⟨(ps_if (PW.pt (pw_or (pt_not (pt_val (pcU U__law_numbers hr pass0 (pa_cons (pmU (pv 0) T.cl_Used U_Used_of_rule hr pass0 (pa_cons (pv 2) (pa1 (pv 3)))) (pa1 (pe_lst (pa1 (pv 2)))))))) (pw_or1 (pt_not (pt_val (pcU U__law_lists hr pass0 (pa_cons (pmU0 (pv 1) T.cl_Listed U_Listed_nothing hr pass0) (pa1 (pe_lst pa_nil))))))))) (pss_one (ps_ret pe_bl)) pss_nil)⟩
      (qss_one ⟨(ps_ret (pe_and (pcU U__law_lists hr pass0 (pa_cons (pmU0 (pv 1) T.cl_Listed U_Listed_blank hr pass0) (pa1 (pe_lst (pa1 (pe_lst pa_nil)))))) (pe_one (pcU U__law_lists hr pass0 (pa_cons (pmU (pv 1) T.cl_Listed U_Listed_of_rule hr pass0 (pa_cons (pv 2) (pa1 (pv 3)))) (pa1 (pe_lst (pa1 (pe_lst (pa1 (pv 2)))))))))))⟩))), ?_⟩
    refine ⟨_, rfl, u, dx, _, rfl, hu0, (by rfl), _, rfl, rfl, _, rfl, iteF ?_⟩
    refine ⟨_, rfl, u, dx, _, rfl, hu0, (by rfl), _, rfl, fun l1 n1 => ?_⟩
    obtain ⟨H1, e1, s1, h1⟩ := newG (.lst []) n1
    rw [e1]
    refine ⟨line1000 (by decide), fun l2 n2 => ?_⟩
    obtain ⟨H2, e2, s2, h2⟩ := newG (.lst []) n2
    rw [e2]
    refine ⟨.ref l1, .ref l2, some [], rfl, ⟨l1, rfl, s2 _ _ h1⟩, ⟨l2, rfl, h2⟩, _, rfl, iteF ?_⟩
    have t2 := s1.trans s2
    refine ⟨_, rfl, u, dx, _, rfl, t2 _ _ hu0, (by rfl), _, rfl, _, rfl, _, n, k, rfl, fun l3 n3 => ?_⟩
    obtain ⟨H3, e3, s3, h3⟩ := newG (.lst [.int n]) n3
    rw [e3]
    refine ⟨_, rfl, line1000 (by show 1 ≤ 1000; decide), fun l4 n4 => ?_⟩
    obtain ⟨H4, e4, s4, h4⟩ := newG (.lst [.int n]) n4
    rw [e4]
    refine ⟨.ref l3, .ref l4, some [n], rfl, ⟨l3, rfl, s4 _ _ h3⟩, ⟨l4, rfl, h4⟩, _, rfl, iteF ?_⟩
    have t4 := t2.trans (s3.trans s4)
    refine ⟨_, rfl, tl, dy, _, rfl, t4 _ _ ht0, (by rfl), _, rfl, fun v5 H5 s5 f5 => ?_⟩
    obtain ⟨a5, ts5, rfl, _, g5, R5, _⟩ := f5
    refine ⟨line1000 (by decide), fun l6 n6 => ?_⟩
    obtain ⟨H6, e6, s6, h6⟩ := newG (.lst []) n6
    rw [e6]
    refine ⟨a5, l6, [], rfl, ⟨ts5, s6 _ _ g5, R5.same s6⟩, ⟨[], h6, rfl⟩, by decide, _, rfl, iteF ?_⟩
    have t6 := t4.trans (s5.trans s6)
    refine ⟨_, rfl, tl, dy, _, rfl, t6 _ _ ht0, (by rfl), _, rfl, fun v7 H7 s7 f7 => ?_⟩
    obtain ⟨a7, ts7, rfl, _, g7, R7, _⟩ := f7
    refine ⟨line1000 (by decide), fun l8 n8 => ?_⟩
    obtain ⟨H8, e8, s8, h8⟩ := newG (.lst []) n8
    rw [e8]
    refine ⟨line1000 (by show 1 ≤ 1000; decide), fun l9 n9 => ?_⟩
    obtain ⟨H9, e9, s9, h9⟩ := newG (.lst [.ref l8]) n9
    rw [e9]
    refine ⟨a7, l9, [[]], rfl, ⟨ts7, s9 _ _ (s8 _ _ g7), R7.same (s8.trans s9)⟩, ⟨[l8], h9, RwA.one (s9 _ _ h8)⟩, by decide, _, rfl, iteT ?_⟩
    have t9 := t6.trans (s7.trans (s8.trans s9))
    refine ⟨_, rfl, tl, dy, _, rfl, t9 _ _ ht0, (by rfl), _, rfl, _, rfl, _, n, k, rfl, fun v10 H10 s10 f10 => ?_⟩
    obtain ⟨a10, ts10, rfl, _, g10, R10, _⟩ := f10
    refine ⟨_, rfl, line1000 (by show 1 ≤ 1000; decide), fun l11 n11 => ?_⟩
    obtain ⟨H11, e11, s11, h11⟩ := newG (.lst [.int n]) n11
    rw [e11]
    refine ⟨line1000 (by show 1 ≤ 1000; decide), fun l12 n12 => ?_⟩
    obtain ⟨H12, e12, s12, h12⟩ := newG (.lst [.ref l11]) n12
    rw [e12]
    exact ⟨a10, l12, [[n]], rfl, ⟨ts10, s12 _ _ (s11 _ _ g10), R10.same (s11.trans s12)⟩, ⟨[l11], h12, RwA.one (s12 _ _ h11)⟩, (by show 1 ≤ 1000; decide), q _ (t9.trans (s10.trans (s11.trans s12)))⟩
end
end FR


set_option linter.all false
set_option Elab.async false
set_option maxRecDepth 100000
set_option maxHeartbeats 4000000
namespace FR
open PySem L2
theorem nd_K42g__law_k__law_first : (["_law_k", "_law_first"] : List Str).Nodup := by decide +kernel
inductive spAllUsed_ (K : PySem.W.Frag) (CU : Addr) (CL : Addr) (vs : List V) (H : Hp) (Q : VK) : Prop where
  | mk (a u dx tl dy : Addr) (m : V) (ns : List Int) (h0_ : vs = [.ref a, .ref u, .ref tl]) (h1_ : SqL K H a (ns.map V.int)) (h2_ : H u = some (.ins CU dx [])) (h3_ : H tl = some (.ins CL dy [("most", m)])) (h4_ : ∀ H', Same H H' → Q (.bl true) H') : spAllUsed_ K CU CL vs H Q
def spAllUsed (K : PySem.W.Frag) (CU CL : Addr) : Sp := fun vs H Q E_ => spAllUsed_ K CU CL vs H Q
inductive spAllListed_ (K : PySem.W.Frag) (CL : Addr) (vs : List V) (H : Hp) (Q : VK) : Prop where
  | mk (a tl dy : Addr) (m : Nat) (ns : List Int) (h0_ : vs = [.ref a, .ref tl, .int m]) (h1_ : SqL K H a (ns.map V.int)) (h2_ : H tl = some (.ins CL dy [("most", .int m)])) (h3_ : m ≤ 60) (h4_ : ∀ H', Same H H' → Q (.bl true) H') : spAllListed_ K CL vs H Q
def spAllListed (K : PySem.W.Frag) (CL : Addr) : Sp := fun vs H Q E_ => spAllListed_ K CL vs H Q
inductive spLaw_ (K : PySem.W.Frag) (vs : List V) (H : Hp) (Q : VK) : Prop where
  | mk (a : Addr) (ns : List Int) (h0_ : vs = [.ref a]) (h1_ : SqL K H a (ns.map V.int)) (h2_ : ns.length ≤ 63) (h3_ : ∀ H', Q (.bl true) H') : spLaw_ K vs H Q
def spLaw (K : PySem.W.Frag) : Sp := fun vs H Q E_ => spLaw_ K vs H Q
theorem law_start {K : PySem.W.Frag} {H : Hp} {a : Addr} {ns : List Int} (hl : ns.length ≤ 63) (hO : Only H) (hS : SqL K H a (ns.map V.int)) : spLaw K [.ref a] H (fun v _ => v = .bl true) fun _ _ _ => False := ⟨a, ns, rfl, hS, hl, fun _ => rfl⟩
inductive AuI (H : Hp) (a u tl : Addr) (σ : St) (G : Hp) : Prop
  | mk (o : Option (List Int)) (hv : V) (v w : Option V) : σ = [some (.ref a), some (.ref u), some (.ref tl), some hv, v, w] → Same H G → UV G o hv → OkU o → AuI H a u tl σ G
inductive AlI (H : Hp) (a tl : Addr) (m i : Nat) (σ : St) (G : Hp) : Prop
  | mk (l : Addr) (A : Rws) (v w : Option V) : σ = [some (.ref a), some (.ref tl), some (.int m), some (.ref l), v, w] → Same H G → LL G l A → SrR A → A.length ≤ m → (∀ r ∈ A, r.length ≤ 3 * i) → AlI H a tl m i σ G
theorem at3 {α : Type} (x y z : α) {c : Int} (P : α → Prop) (hx : P x) (hy : P y) (hz : P z) : ∃ v, atI [x, y, z] (c % 3) = some v ∧ P v := by
  have h0 : 0 ≤ c % 3 := Int.emod_nonneg _ (by decide)
  have h1 : c % 3 < 3 := Int.emod_lt_of_pos _ (by decide)
  obtain ⟨n, e⟩ : ∃ n : Nat, c % 3 = (n : Int) := ⟨(c % 3).toNat, by lia⟩
  rw [e]
  match n, (show n < 3 by lia) with
  | 0, _ => exact ⟨x, atI_nat (j := 0) rfl, hx⟩
  | 1, _ => exact ⟨y, atI_nat (j := 1) rfl, hy⟩
  | 2, _ => exact ⟨z, atI_nat (j := 2) rfl, hz⟩
theorem seq_c42 {v : V} {i : Nat} {u : TS} {D : Ends} {σ : St} {H : Hp} (h : u D (σ.set i (some v)) H) : tSeq (tAsg (tC v) (gName i)) u D σ H := h
theorem newI {H : Hp} (CL : Addr) {x dx : Addr} (nx : H x = none) (ndx : H dx = none) (ne : dx ≠ x) : ∃ G, upd (upd H dx (.own x)) x (.ins CL dx []) = G ∧ Same H G ∧ G x = some (.ins CL dx []) := ⟨_, rfl, (Same.upd ndx).put nx, upd_same⟩

theorem comp_rg {n : Nat} {te : TE} {Q : VK} {H : Hp} {l : Addr} {τ : St} (j0 : Nat) (f : Nat → List Int) (hl : H l = none) (hτ : j0 < τ.length) (hz : n ≤ 1000) (keep : St → Prop) (hk0 : keep τ) (hks : ∀ τ' v, keep τ' → keep (τ'.set j0 v))
    (ht : ∀ (τ' : St) (k : Nat) (H' : Hp) (Rk : VK), keep τ' → τ'[j0]? = some (some (.int k)) → Same H H' → (∀ p H6, Same H' H6 → H' p = none → H6 p = rwO (f k) → Rk (.ref p) H6) → te τ' H' Rk)
    (hq : ∀ us H', (∀ u ∈ us, H u = none) → Same H H' → RwA H' us ((List.range n).map f) → H' l = some (.lst (us.map V.ref)) → Q (.ref l) H') : CompOk (Itr 0 n) (gName j0) tYes te Q l τ H := by
  refine comp_by n (fun i ys τ' H2 => ∃ us : List Addr, ys = us.map V.ref ∧ us.length = i ∧ RwA H2 us ((List.range i).map f) ∧ (∀ u ∈ us, u ≠ l ∧ H u = none) ∧ j0 < τ'.length ∧ keep τ' ∧ Same H H2 ∧ H2 l = some (.lst ys)) ⟨[], rfl, rfl, rfl, (fun t z => nomatch z), hτ, hk0, Same.upd hl, upd_same⟩ ?_ ?_
  · rintro i ys τ' H2 N hi ⟨us, rfl, hu, hR, hne, hτ', hk', s, hll⟩ hN
    have gv := (gives_range (lo := 0) (n := n) i H2 s).1 hi
    refine ⟨gv.1, fun x H3 hy => ?_⟩
    obtain ⟨rfl, rfl⟩ := gv.2 x H3 hy
    show te _ _ _
    refine ht _ i _ _ (hks _ _ hk') (by rw [List.getElem?_set_self hτ', Int.zero_add]) s fun b H6 s6 nb hb => ?_
    have hl6 := s6 _ _ hll
    have nbl : b ≠ l := fun e => by rw [e, hll] at nb; cases nb
    have ne2 : ∀ u ∈ us ++ [b], u ≠ l ∧ H u = none := fun u z => by
      rcases List.mem_append.mp z with z | z
      · exact hne u z
      · rw [List.mem_singleton.mp z]
        exact ⟨nbl, s.free nb⟩
    refine ⟨hl6, by rw [List.length_map, hu, sizeLine_eq]; lia, hN _ _ _ ⟨us ++ [b], by rw [List.map_append]; rfl, by rw [List.length_append, hu]; rfl, ?_, ne2, by rw [List.length_set]; exact hτ', hks _ _ hk', (s.trans s6).put hl, upd_same⟩⟩
    refine RwA.up ?_ fun u z => (ne2 u z).1
    rw [List.range_succ, List.map_append]
    exact (hR.same s6).app (RwA.one hb)
  · rintro ys τ' H2 ⟨us, rfl, hu, hR, hne, hτ', hk', s, hll⟩
    exact ⟨(gives_range (lo := 0) (n := n) 0 H2 s).2, hq us H2 (fun u z => (hne u z).2) s hR hll⟩
theorem SrR.take {A : Rws} (h : SrR A) (m : Nat) : SrR (A.take m) := List.Pairwise.sublist (List.take_sublist _ _) h
theorem prs_row {A B : Rws} {i j : Nat} (hA : ∀ r ∈ A, r.length ≤ i) (hB : ∀ r ∈ B, r.length ≤ j) : ∀ r ∈ prs A B, r.length ≤ i + j := fun r z => by
  obtain ⟨a, ha, b, hb, rfl⟩ := mem_prs.mp z
  have := hA a ha
  have := hB b hb
  rw [List.length_append]
  lia
section
variable {P : Program} {w : World} {K : PySem.W.Frag} {mg : Str → Option Value} {base : Heap} {C : Adr}
theorem sc__law_all_used : FnScope ["_law_script", "_law_used_here", "_law_listed", "_law_held", "_law_cell", "_law_value"] ["_law_script", "_law_used_here", "_law_listed"] (defScope s__law_all_used) := scU
theorem ok__law_all_used {f : Addr} {fd : FuncData} (F : Fun K "_law_all_used" "_law_all_used" s__law_all_used f fd) (T : Txt K mg C) (U__law_used : Used P w K mg CX0 2 "_law_used" ["_law_cell"] (spUsed)) (U__law_begun : Used P w K mg CX0 3 "_law_begun" ["_law_used_here", "_law_listed", "_law_number", "_law_worth"] (spBegun C.Used C.Listed)) (U__law_used_right : Used P w K mg CX0 3 "_law_used_right" ["_law_used_here", "_law_one", "_law_other"] (spUsedRight C.Used)) (U__law_either : Used P w K mg CX0 2 "_law_either" ["_law_one", "_law_other"] (spTwoU eiU)) (U__law_both : Used P w K mg CX0 2 "_law_both" ["_law_one", "_law_other"] (spTwoU boU)) : FnOk P w K mg base CX0 4 f fd ["_law_script", "_law_used_here", "_law_listed"] (spAllUsed K C.Used C.Listed) := by
  refine F.ok sc__law_all_used (fun vs H Q E h => ?_) (fun cdv A outer s H vs Q E hr h => ?_)
  · obtain ⟨a, u, dx, tl, dy, m, ns, rfl, _⟩ := h
    rfl
  · obtain ⟨a, u, dx, tl, dy, m, ns, rfl, hS, hu0, ht0, q⟩ := h
    have hu := hu_of hr
    have hU := hr.units
    refine qex ?_
    refine ⟨_, (qss_cons (qsU 3 sc__law_all_used qe_non)
      (qss_cons ⟨(pfU (pi_listK K rfl (pv 0)) (pgU 4 sc__law_all_used) (pss_cons (psU 5 sc__law_all_used (pcU U__law_used hr pass0 (pa1 (pv 4))))
      (pss_cons (ps_if (PW.pt (pw_or (pt_not (pt_val (pcU U__law_used_right hr pass0 (pa_cons (pv 1) (pa_cons (pv 3) (pa1 (pv 5))))))) (pw_or1 (pt_not (pt_val (pcU U__law_used_right hr pass0 (pa_cons (pv 1) (pa_cons (pv 5) (pa1 (pv 3)))))))))) (pss_one (ps_ret pe_bl)) pss_nil)
      (pss_cons (ps_if (pt_not (pt_val (pcU U__law_begun hr pass0 (pa_cs (pv 1) (pa_cs (pv 2) (pa_cs (pe_op op_mod (pv 4) pe_int) (pa_cs (pe_op op_mod (pe_op op_fdiv (pv 4) pe_int) (pe_op op_add (pe_op op_pow pe_int pe_int) pe_int)) pa_nil))))))) (pss_one (ps_ret pe_bl)) pss_nil)
      (pss_one (psU 3 sc__law_all_used (ixL K (pe_lst (pa_cons (pcU U__law_either hr pass0 (pa_cons (pv 3) (pa1 (pv 5)))) (pa_cons (pcU U__law_both hr pass0 (pa_cons (pv 3) (pa1 (pv 5)))) (pa1 (pv 5))))) (pe_op op_mod (pe_op op_fdiv (pv 4) pe_int) pe_int))))))))⟩
      (qss_one ⟨(ps_ret pe_bl)⟩))), ?_⟩
    show tSeq _ _ _ _ _
    refine ⟨_, rfl, a, rfl, ⟨_, hS⟩, for_list (K := K) (a := a) (xs := ns.map V.int) (fun _ => AuI H a u tl) (.mk none .non none none rfl (Same.refl H) rfl okU_none) ?_ ?_ ?_⟩
    · rintro i σ G _ ⟨o, hv, v, w, rfl, s, _, _⟩
      exact s.seq hS
    · rintro i vk σ G hi ⟨o, hv, v, w, rfl, s, ho, ko⟩
      rw [List.getElem?_map] at hi
      obtain ⟨c, _, rfl⟩ := Option.map_eq_some_iff.mp hi
      refine ⟨_, rfl, c, rfl, fun o2 v2 G2 k2 s2 f2 => ?_⟩
      dsimp only [gName]
      have t2 := s.trans s2
      refine ⟨_, rfl, _, rfl, _, rfl, u, dx, hv, v2, o, o2, rfl, t2 _ _ hu0, ho.same s2, f2.uv, ko, k2, fun G3 s3 => ⟨_, rfl, iteF ?_⟩⟩
      refine ⟨_, rfl, _, rfl, _, rfl, u, dx, v2, hv, o2, o, rfl, s3 _ _ (t2 _ _ hu0), f2.uv.same s3, ho.same (s2.trans s3), k2, ko, fun G4 s4 => ⟨_, rfl, iteF ?_⟩⟩
      have s24 := s3.trans s4
      have t4 := t2.trans s24
      refine ⟨_, rfl, _, rfl, _, rfl, _, _, rfl, rfl, (by show (0 : Int) < 60; decide), _, rfl, _, _, rfl, rfl, ⟨by decide, by decide⟩, _, _, rfl, rfl, ⟨by decide, by decide, by decide⟩, _, _, rfl, rfl, _, _, rfl, rfl, (by show (0 : Int) < 10 ^ 60 + 1; decide), u, dx, tl, dy, m, _, _, rfl, t4 _ _ hu0, t4 _ _ ht0, fun G5 s5 => ⟨_, rfl, iteF ?_⟩⟩
      have s25 := s24.trans s5
      have t5 := t4.trans s5
      refine ⟨_, rfl, _, rfl, hv, v2, o, o2, rfl, ho.same (s2.trans s25), f2.uv.same s25, ko, k2, fun w1 G6 s6 f6 => ?_⟩
      refine ⟨_, rfl, _, rfl, hv, v2, o, o2, rfl, ho.same (s2.trans (s25.trans s6)), f2.uv.same (s25.trans s6), ko, k2, fun w2 G7 s7 f7 => ?_⟩
      refine ⟨_, rfl, line1000 (by show 3 ≤ 1000; decide), fun l nl => ?_⟩
      obtain ⟨G8, e8, s8, h8⟩ := newG (.lst [w1, w2, v2]) nl
      rw [e8]
      obtain ⟨vv, hvv, ⟨o3, U3, K3⟩⟩ := at3 w1 w2 v2 (c := c / 6) (fun v => ∃ o, UV G8 o v ∧ OkU o) ⟨_, f6.uv.same (s7.trans s8), okU_ei ko k2⟩ ⟨_, f7.uv.same s8, okU_bo⟩ ⟨_, f2.uv.same (s25.trans (s6.trans (s7.trans s8))), k2⟩
      refine ⟨_, rfl, _, _, rfl, rfl, ⟨by decide, by decide⟩, _, _, rfl, rfl, (by show (0 : Int) < 3; decide), l, _, _, vv, rfl, rfl, SqL.of h8, hvv, ?_⟩
      exact .mk o3 vv _ _ rfl (t5.trans (s6.trans (s7.trans s8))) U3 K3
    · rintro σ G ⟨o, hv, v, w, rfl, s, ho, ko⟩
      exact q _ s
theorem sc__law_all_listed : FnScope ["_law_script", "_law_listed", "_law_many", "_law_held", "_law_cell", "_law_rows_here"] ["_law_script", "_law_listed", "_law_many"] (defScope s__law_all_listed) := scU
theorem ok__law_all_listed {f : Addr} {fd : FuncData} (F : Fun K "_law_all_listed" "_law_all_listed" s__law_all_listed f fd) (T : Txt K mg C) (U__law_rows : Used P w K mg CX0 2 "_law_rows" ["_law_cell"] (spRows)) (U__law_listed_right : Used P w K mg CX0 4 "_law_listed_right" ["_law_listed", "_law_one", "_law_other", "_law_many"] (spListedRight C.Listed)) (U__law_joined : Used P w K mg CX0 1 "_law_joined" ["_law_one", "_law_other"] (spJoined)) : FnOk P w K mg base CX0 5 f fd ["_law_script", "_law_listed", "_law_many"] (spAllListed K C.Listed) := by
  refine F.ok sc__law_all_listed (fun vs H Q E h => ?_) (fun cdv A outer s H vs Q E hr h => ?_)
  · obtain ⟨a, tl, dy, m, ns, rfl, _⟩ := h
    rfl
  · obtain ⟨a, tl, dy, m, ns, rfl, hS, ht0, hm, q⟩ := h
    have hu := hu_of hr
    have hU := hr.units
    refine qex ?_
    refine ⟨_, (qss_cons (qsU 3 sc__law_all_listed (qe_lst qa_nil))
      (qss_cons ⟨(pfU (pi_listK K rfl (pe_slice (sl_listK K rfl) (pv 0) po_none (po_some pe_int))) (pgU 4 sc__law_all_listed) (pss_cons (psU 5 sc__law_all_listed (pe_slice (sl_listK K rfl) (pcU U__law_rows hr pass0 (pa1 (pv 4))) po_none (po_some (pv 2))))
      (pss_cons (ps_if (PW.pt (pw_or (pt_not (pt_val (pcU U__law_listed_right hr pass0 (pa_cs (pv 1) (pa_cs (pv 3) (pa_cs (pv 5) (pa_cs (pv 2) pa_nil))))))) (pw_or1 (pt_not (pt_val (pcU U__law_listed_right hr pass0 (pa_cs (pv 1) (pa_cs (pv 5) (pa_cs (pv 3) (pa_cs (pv 2) pa_nil)))))))))) (pss_one (ps_ret pe_bl)) pss_nil)
      (pss_one (psU 3 sc__law_all_listed (pe_slice (sl_listK K rfl) (ixL K (pe_lst (pa_cons (pe_callB (call_sortedLx hU) (by rfl) T.z_sorted PyProof.Rows.Boot.«sorted» (pa1 (pe_op op_cat (pv 3) (pv 5)))) (pa_cons (pcU U__law_joined hr pass0 (pa_cons (pv 3) (pa1 (pv 5)))) (pa1 (pv 5))))) (pe_op op_mod (pe_op op_fdiv (pv 4) pe_int) pe_int)) po_none (po_some (pv 2))))))))⟩
      (qss_one ⟨(ps_ret pe_bl)⟩))), ?_⟩
    refine ⟨line1000 (by decide), fun l0 n0 => ?_⟩
    obtain ⟨G0, e0, s0, h0⟩ := newG (.lst []) n0
    rw [e0]
    dsimp only [gName]
    refine ⟨_, rfl, 6, rfl, a, _, rfl, s0.seq hS, fun b nb => ?_⟩
    rw [show (6 : Int) = ((6 : Nat) : Int) from rfl, cut_take]
    obtain ⟨G1, e1, s1, h1⟩ := newG (.lst ((ns.take 6).map V.int)) nb
    rw [e1]
    have s01 := s0.trans s1
    have nb0 : l0 ≠ b := ne_of_none h0 nb
    refine ⟨b, rfl, ⟨_, SqL.of h1⟩, for_list (K := K) (a := b) (xs := (ns.take 6).map V.int) (fun i σ G => G b = some (.lst ((ns.take 6).map V.int)) ∧ AlI H a tl m i σ G) ⟨h1, .mk l0 [] none none rfl s01 ⟨[], s1 _ _ h0, rfl⟩ .nil (Nat.zero_le _) fun _ z => nomatch z⟩ ?_ ?_ ?_⟩
    · rintro i σ G _ ⟨gb, _⟩
      exact SqL.of gb
    · rintro i vk σ G hi ⟨gb, l, A, v, w, rfl, s, hL, sA, lA, rA⟩
      have hi6 : i < 6 := by
        have := (List.getElem?_eq_some_iff.mp hi).1
        rw [List.length_map, List.length_take] at this
        lia
      rw [List.getElem?_map] at hi
      obtain ⟨c, _, rfl⟩ := Option.map_eq_some_iff.mp hi
      refine ⟨_, rfl, c, rfl, fun B v2 G2 sB lB rB s2 f2 => ?_⟩
      obtain ⟨b2, ts2, rfl, _, g2, R2, _⟩ := f2
      refine ⟨_, rfl, m, rfl, b2, _, rfl, SqL.of g2, fun b3 n3 => ?_⟩
      rw [cut_take]
      obtain ⟨G3, e3, s3, h3⟩ := newG (.lst ((ts2.take m).map V.ref)) n3
      rw [e3]
      dsimp only [gName]
      have t3 := s2.trans s3
      have st := s.trans t3
      have L3 : LL G3 b3 (B.take m) := ⟨_, h3, (R2.same s3).take m⟩
      have rB' : ∀ r ∈ B.take m, r.length ≤ 3 := fun r z => rB r (List.mem_of_mem_take z)
      have lB' : (B.take m).length ≤ m := by rw [List.length_take]; lia
      have A5 : ∀ r ∈ A, r.length ≤ 500 := fun r z => by have := rA r z; lia
      have B5 : ∀ r ∈ B.take m, r.length ≤ 500 := fun r z => by have := rB' r z; lia
      refine ⟨_, rfl, _, rfl, _, rfl, _, rfl, tl, dy, l, b3, m, A, B.take m, rfl, st _ _ ht0, hL.same t3, L3, hm, lA, lB', sA, sB.take m, A5, B5, fun G4 s4 => ⟨_, rfl, iteF ?_⟩⟩
      refine ⟨_, rfl, _, rfl, _, rfl, _, rfl, tl, dy, b3, l, m, B.take m, A, rfl, s4 _ _ (st _ _ ht0), L3.same s4, (hL.same t3).same s4, hm, lB', lA, sB.take m, sA, B5, A5, fun G5 s5 => ⟨_, rfl, iteF ?_⟩⟩
      have s45 := s4.trans s5
      obtain ⟨tA, hA1, hA2⟩ := hL.same (t3.trans s45)
      obtain ⟨tB, hB1, hB2⟩ := L3.same s45
      have kA := hA2.len
      have kB := hB2.len
      refine ⟨_, rfl, _, rfl, l, b3, _, _, rfl, rfl, hA1, hB1, by rw [List.length_map, List.length_map, sizeLine_eq]; lia, fun p np => ?_⟩
      rw [← List.map_append]
      obtain ⟨G6, e6, s6, h6⟩ := newG (.lst ((tA ++ tB).map V.ref)) np
      rw [e6]
      refine ⟨p, tA ++ tB, A ++ B.take m, rfl, h6, (hA2.same s6).app (hB2.same s6), fun q1 ts' nq1 hpm hRq => ?_⟩
      obtain ⟨G7, e7, s7, h7⟩ := newG (.lst (ts'.map V.ref)) nq1
      rw [e7]
      have s67 := s6.trans s7
      refine ⟨_, rfl, _, rfl, l, b3, A, B.take m, rfl, ⟨tA, s67 _ _ hA1, hA2.same s67⟩, ⟨tB, s67 _ _ hB1, hB2.same s67⟩, by lia, by lia, A5, B5, fun v8 G8 s8 f8 => ?_⟩
      obtain ⟨q3, ts3, rfl, _, h8, R8, _⟩ := f8
      refine ⟨_, rfl, line1000 (by show 3 ≤ 1000; decide), fun d nd => ?_⟩
      obtain ⟨G9, e9, s9, h9⟩ := newG (.lst [.ref q1, .ref q3, .ref b3]) nd
      rw [e9]
      have s89 := s8.trans s9
      obtain ⟨vv, hvv, X, tX, xx, rfl, hX1, hX2, hX3, hX4⟩ := at3 (V.ref q1) (.ref q3) (.ref b3) (c := c / 20) (fun v => ∃ (X : Rws) (tX : List Addr) (x : Addr), v = .ref x ∧ G9 x = some (.lst (tX.map V.ref)) ∧ RwA G9 tX X ∧ SrR X ∧ ∀ r ∈ X, r.length ≤ 3 * (i + 1))
        ⟨_, ts', q1, rfl, s89 _ _ h7, (hRq.same s7).same s89, srt_sr _, fun r z => by
          rcases List.mem_append.mp ((srt_perm _).mem_iff.mp z) with z | z
          · have := rA r z; lia
          · have := rB' r z; lia⟩
        ⟨_, ts3, q3, rfl, s9 _ _ h8, R8.same s9, srt_sr _, fun r z => by
          have := prs_row rA rB' r ((srt_perm _).mem_iff.mp z)
          lia⟩
        ⟨_, tB, b3, rfl, (s67.trans s89) _ _ hB1, hB2.same (s67.trans s89), sB.take m, fun r z => by have := rB' r z; lia⟩
      refine ⟨_, rfl, _, _, rfl, rfl, ⟨by decide, by decide⟩, _, _, rfl, rfl, (by show (0 : Int) < 3; decide), d, _, _, _, rfl, rfl, SqL.of h9, hvv, ?_⟩
      refine ⟨_, rfl, m, rfl, xx, _, rfl, SqL.of hX1, fun e ne => ?_⟩
      rw [cut_take]
      have s49 := s45.trans (s67.trans s89)
      have gb9 := s49 _ _ (t3 _ _ gb)
      exact ⟨by show upd G9 e _ b = _; rw [upd_ne (ne_of_none gb9 ne)]; exact gb9, .mk e (X.take m) _ _ rfl ((st.trans s49).trans (Same.upd ne)) ⟨_, upd_same, (hX2.same (Same.upd ne)).take m⟩ (hX3.take m) (by rw [List.length_take]; lia) fun r z => hX4 r (List.mem_of_mem_take z)⟩
    · rintro σ G ⟨gb, l, A, v, w, rfl, s, hL, sA, lA, rA⟩
      exact q _ s
theorem sc_law : FnScope ["_law_script", "_law_first", "_law_many", "_law_used_here", "_law_listed", "_law_one", "_law_other"] ["_law_script"] (defScope s_law) := scU
theorem ok_law {f : Addr} {fd : FuncData} (F : Fun K "law" "law" s_law f fd) (T : Txt K mg C) (U__law_all_used : Used P w K mg CX0 4 "_law_all_used" ["_law_script", "_law_used_here", "_law_listed"] (spAllUsed K C.Used C.Listed)) (U__law_begun : Used P w K mg CX0 3 "_law_begun" ["_law_used_here", "_law_listed", "_law_number", "_law_worth"] (spBegun C.Used C.Listed)) (U__law_all_listed : Used P w K mg CX0 5 "_law_all_listed" ["_law_script", "_law_listed", "_law_many"] (spAllListed K C.Listed)) (U__law_listed_right : Used P w K mg CX0 4 "_law_listed_right" ["_law_listed", "_law_one", "_law_other", "_law_many"] (spListedRight C.Listed)) (U_Listed___init__ : UsedI2 P w K mg CX0 1 C.Listed ["self", "many"] (spLInit C.Listed) 60) : FnOk P w K mg base CX0 6 f fd ["_law_script"] (spLaw K) := by
  refine F.ok sc_law (fun vs H Q E h => ?_) (fun cdv A outer s H vs Q E hr h => ?_)
  · obtain ⟨a, ns, rfl, _⟩ := h
    rfl
  · obtain ⟨a, ns, rfl, hS, hn, q⟩ := h
    have hu := hu_of hr
    have hU := hr.units
    refine qex ?_
    refine ⟨_, (qss_cons (qsU 1 sc_law qe_int)
      (qss_cons ⟨(ps_if (pt_cmpR op_gt (lnU K T.z_len (pv 0)) pe_int (nomark _)) (pss_one (psU 1 sc_law (ixL K (pv 0) pe_int))) pss_nil)⟩
      (qss_cons ⟨(psU 2 sc_law (pe_op op_add pe_int (pe_op op_mod (pv 1) pe_int)))⟩
      (qss_cons ⟨(psU 3 sc_law (pe_mk0 T.mk_Used (by rfl) T.n_Used))⟩
      (qss_cons ⟨(psU 4 sc_law (pkU U_Listed___init__.all hr T.n_Listed pass0 (pa1 (pv 2))))⟩
      (qss_cons ⟨(ps_if (PW.pt (pw_or (pt_not (pt_val (pe_callB (call_isiK K rfl) (by rfl) T.z_isinstance PyProof.Rows.Boot.«isinstance» (pa_cons (pv 3) (pa1 (pe_glob (v := .ref C.Tally) (by rfl) T.n_Tally rfl)))))) (pw_or1 (pt_not (pt_val (pe_callB (call_isiK K rfl) (by rfl) T.z_isinstance PyProof.Rows.Boot.«isinstance» (pa_cons (pv 4) (pa1 (pe_glob (v := .ref C.Tally) (by rfl) T.n_Tally rfl))))))))) (pss_one (ps_ret pe_bl)) pss_nil)⟩
      (qss_cons ⟨(ps_if (PW.pt (pw_or (pt_val (pe_callB (call_isiK K rfl) (by rfl) T.z_isinstance PyProof.Rows.Boot.«isinstance» (pa_cons (pv 3) (pa1 (pe_glob (v := .ref C.Listed) (by rfl) T.n_Listed rfl))))) (pw_or1 (pt_val (pe_callB (call_isiK K rfl) (by rfl) T.z_isinstance PyProof.Rows.Boot.«isinstance» (pa_cons (pv 4) (pa1 (pe_glob (v := .ref C.Used) (by rfl) T.n_Used rfl)))))))) (pss_one (ps_ret pe_bl)) pss_nil)⟩
      (qss_cons ⟨(ps_if (PW.pt (pw_or (pt_not (pt_val (pcU U__law_begun hr pass0 (pa_cs (pv 3) (pa_cs (pv 4) (pa_cs pe_int (pa_cs pe_int pa_nil))))))) (pw_or1 (pt_not (pt_val (pcU U__law_all_listed hr pass0 (pa_cons (pv 0) (pa_cons (pv 4) (pa1 (pv 2)))))))))) (pss_one (ps_ret pe_bl)) pss_nil)⟩
      (qss_cons ⟨(psU 5 sc_law (pe_callB (call_sortedLx hU) (by rfl) T.z_sorted PyProof.Rows.Boot.«sorted» (pa1 (pe_comp (N := ["_law_k", "_law_first"]) (ρ := [none, some 1]) rfl (CompScope.closes ["_law_script", "_law_first", "_law_many", "_law_used_here", "_law_listed", "_law_one", "_law_other"] (defScope s_law).names rfl rfl rfl rfl (by decide +kernel) (by decide +kernel) (fun x h => cell_has h) (by decide +kernel) rfl (by decide +kernel)) (pi_range1 rfl T.z_range (pa1 pe_int)) (fun _ _ _ _ _ => (pg_name (i := 0) nd_K42g__law_k__law_first rfl (Or.inl rfl) (.inr rfl))) (fun _ _ _ _ _ => pts_nil) (fun _ _ _ _ _ => (pe_lst (pa1 (pe_op op_mod (pe_op op_add (pv 1) (pe_op op_mul pe_int (pv 0))) pe_int))))))))⟩
      (qss_cons ⟨(psU 6 sc_law (pe_callB (call_sortedLx hU) (by rfl) T.z_sorted PyProof.Rows.Boot.«sorted» (pa1 (pe_comp (N := ["_law_k", "_law_first"]) (ρ := [none, some 1]) rfl (CompScope.closes ["_law_script", "_law_first", "_law_many", "_law_used_here", "_law_listed", "_law_one", "_law_other"] (defScope s_law).names rfl rfl rfl rfl (by decide +kernel) (by decide +kernel) (fun x h => cell_has h) (by decide +kernel) rfl (by decide +kernel)) (pi_range1 rfl T.z_range (pa1 pe_int)) (fun _ _ _ _ _ => (pg_name (i := 0) nd_K42g__law_k__law_first rfl (Or.inl rfl) (.inr rfl))) (fun _ _ _ _ _ => pts_nil) (fun _ _ _ _ _ => (pe_lst (pa_cons (pe_op op_mod (pe_op op_add (pe_op op_fdiv (pv 1) pe_int) (pe_op op_mul pe_int (pv 0))) pe_int) (pa1 (pv 0)))))))))⟩
      (qss_cons ⟨(ps_if (PW.pt (pw_or (pt_not (pt_val (pcU U__law_listed_right hr pass0 (pa_cs (pkUd U_Listed___init__ hr T.n_Listed pass0) (pa_cs (pv 5) (pa_cs (pv 6) (pa_cs pe_int pa_nil))))))) (pw_or1 (pt_not (pt_val (pcU U__law_listed_right hr pass0 (pa_cs (pv 4) (pa_cs (pe_slice (sl_listK K rfl) (pv 5) po_none (po_some (pv 2))) (pa_cs (pe_slice (sl_listK K rfl) (pv 6) po_none (po_some (pv 2))) (pa_cs (pv 2) pa_nil)))))))))) (pss_one (ps_ret pe_bl)) pss_nil)⟩
      (qss_one ⟨(ps_ret (pcU U__law_all_used hr pass0 (pa_cons (pv 0) (pa_cons (pv 3) (pa1 (pv 4))))))⟩)))))))))))), ?_⟩
    refine seq_c42 ?_
    refine seq_mid42 (fun σ' H' => H = H' ∧ ∃ c : Int, σ' = [some (.ref a), some (.int c), none, none, none, none, none]) ?_ fun rest => ?_
    · rintro _ _ ⟨rfl, c, rfl⟩
      refine ⟨_, rfl, _, _, rfl, rfl, (by show (0 : Int) < 60; decide), _, _, rfl, rfl, ?_⟩
      have hc0 : 0 ≤ c % 60 := Int.emod_nonneg _ (by decide)
      have hc1 : c % 60 < 60 := Int.emod_lt_of_pos _ (by decide)
      obtain ⟨m, em⟩ : ∃ m : Nat, 1 + c % 60 = (m : Int) := ⟨(1 + c % 60).toNat, by lia⟩
      rw [em]
      have hm : m ≤ 60 := by lia
      dsimp only [gName]
      intro u dx nu ndx neu
      obtain ⟨H1, e1, s1, u1⟩ := newI C.Used nu ndx neu
      rw [e1]
      dsimp only [gName]
      refine ⟨_, rfl, fun tl dy nt ndy ney => ?_⟩
      obtain ⟨H2, e2, s2, h2⟩ := newI C.Listed nt ndy ney
      rw [e2]
      refine ⟨tl, dy, m, rfl, h2, rfl, ?_⟩
      have s23 : Same H1 (upd H2 tl (.ins C.Listed dy [("most", .int m)])) := s2.put nt
      have h3 : upd H2 tl (.ins C.Listed dy [("most", .int m)]) tl = some (.ins C.Listed dy [("most", .int m)]) := upd_same
      revert s23 h3
      generalize upd H2 tl (.ins C.Listed dy [("most", .int m)]) = H3
      intro s23 h3
      have s3 := s1.trans s23
      have u3 := s23 _ _ u1
      dsimp only [gName]
      refine ⟨_, rfl, _, _, _, _, _, rfl, .ins u3 T.cl_Used T.ca_Used T.hn_ T.htk_ T.hm_Used, rfl, T.kUT, _, rfl, iteF ⟨_, rfl, _, _, _, _, _, rfl, .ins h3 T.cl_Listed T.ca_Listed T.hn_ T.htk_ T.hm_Listed, rfl, T.kLT, _, rfl, iteF ?_⟩⟩
      refine ⟨_, rfl, _, _, _, _, _, rfl, .ins u3 T.cl_Used T.ca_Used T.hn_ T.htk_ T.hm_Used, rfl, T.kUL, _, rfl, iteF ⟨_, rfl, _, _, _, _, _, rfl, .ins h3 T.cl_Listed T.ca_Listed T.hn_ T.htk_ T.hm_Listed, rfl, T.kLU, _, rfl, iteF ?_⟩⟩
      refine ⟨_, rfl, _, rfl, u, dx, tl, dy, _, _, _, rfl, u3, h3, fun H4 s4 => ⟨_, rfl, iteF ?_⟩⟩
      refine ⟨_, rfl, _, rfl, _, rfl, a, tl, dy, m, ns, rfl, (s3.trans s4).seq hS, s4 _ _ h3, hm, fun H5 s5 => ⟨_, rfl, iteF ?_⟩⟩
      have t5 := s3.trans (s4.trans s5)
      have h5 := s5 _ _ (s4 _ _ h3)
      refine ⟨8, rfl, by decide, by decide, fun l1 n1 => comp_rg (n := 8) 0 (fun k => [(c + 7 * k) % 60]) n1 (by show 0 < 2; decide) (by decide) (fun τ => τ[1]? = some (some (.int c))) rfl (fun τ' v h => by rw [List.getElem?_set_ne (by decide)]; exact h) (fun τ' k H' Rk hk hx s' kk => ⟨_, hk, _, hx, _, _, rfl, rfl, .inl ⟨by decide, by decide⟩, _, _, rfl, rfl, _, _, rfl, rfl, (by show (0 : Int) < 60; decide), line1000 (by show 1 ≤ 1000; decide), fun p hp => kk p _ (Same.upd hp) hp upd_same⟩) ?_⟩
      intro ts1 H6 N1 s6 R1 g1
      refine ⟨l1, ts1, _, rfl, g1, R1, fun l2 ts2 nl2 hp2 R2 => ?_⟩
      obtain ⟨H7, e7, s7, h7⟩ := newG (.lst (ts2.map V.ref)) nl2
      rw [e7]
      dsimp only [gName]
      refine ⟨9, rfl, by decide, by decide, fun l3 n3 => comp_rg (n := 9) 0 (fun k => [(c / 60 + 11 * k) % 60, (k : Int)]) n3 (by show 0 < 2; decide) (by decide) (fun τ => τ[1]? = some (some (.int c))) rfl (fun τ' v h => by rw [List.getElem?_set_ne (by decide)]; exact h) (fun τ' k H' Rk hk hx s' kk => ⟨_, hk, _, _, rfl, rfl, ⟨by decide, by decide⟩, _, hx, _, _, rfl, rfl, .inl ⟨by decide, by decide⟩, _, _, rfl, rfl, _, _, rfl, rfl, (by show (0 : Int) < 60; decide), _, hx, line1000 (by show 2 ≤ 1000; decide), fun p hp => kk p _ (Same.upd hp) hp upd_same⟩) ?_⟩
      intro ts3 H8 N3 s8 R3 g3
      refine ⟨l3, ts3, _, rfl, g3, R3, fun l4 ts4 nl4 hp4 R4 => ?_⟩
      obtain ⟨H9, e9, s9, h9⟩ := newG (.lst (ts4.map V.ref)) nl4
      rw [e9]
      dsimp only [gName]
      have s59 := s6.trans (s7.trans (s8.trans s9))
      have t9 := t5.trans s59
      obtain ⟨X, eX⟩ : ∃ X, srt ((List.range 8).map fun k : Nat => [(c + 7 * k) % 60]) = X := ⟨_, rfl⟩
      obtain ⟨Y, eY⟩ : ∃ Y, srt ((List.range 9).map fun k : Nat => [(c / 60 + 11 * k) % 60, (k : Int)]) = Y := ⟨_, rfl⟩
      rw [eX] at R2
      rw [eY] at R4
      have sX : SrR X := eX ▸ srt_sr _
      have sY : SrR Y := eY ▸ srt_sr _
      have lX : X.length ≤ 9 := by rw [← eX, srt_len, List.length_map, List.length_range]; decide
      have lY : Y.length ≤ 9 := by rw [← eY, srt_len, List.length_map, List.length_range]; decide
      have rX : ∀ r ∈ X, r.length ≤ 500 := fun r z => by
        rw [← eX] at z
        obtain ⟨k, _, rfl⟩ := List.mem_map.mp ((srt_perm _).mem_iff.mp z)
        show 1 ≤ 500
        decide
      have rY : ∀ r ∈ Y, r.length ≤ 500 := fun r z => by
        rw [← eY] at z
        obtain ⟨k, _, rfl⟩ := List.mem_map.mp ((srt_perm _).mem_iff.mp z)
        show 2 ≤ 500
        decide
      have R2' := R2.same (s7.trans (s8.trans s9))
      have g2' := s9 _ _ (s8 _ _ h7)
      have R4' := R4.same s9
      intro z dz nz ndz nez
      obtain ⟨H10, e10, s10, z10⟩ := newI C.Listed nz ndz nez
      rw [e10]
      refine ⟨z, dz, 60, rfl, z10, rfl, ?_⟩
      have s11 : Same H9 (upd H10 z (.ins C.Listed dz [("most", .int 60)])) := s10.put nz
      have z11 : upd H10 z (.ins C.Listed dz [("most", .int 60)]) z = some (.ins C.Listed dz [("most", .int 60)]) := upd_same
      revert s11 z11
      generalize upd H10 z (.ins C.Listed dz [("most", .int 60)]) = H11
      intro s11 z11
      have L2 : LL H11 l2 X := ⟨ts2, s11 _ _ g2', R2'.same s11⟩
      have L4 : LL H11 l4 Y := ⟨ts4, s11 _ _ h9, R4'.same s11⟩
      refine ⟨_, rfl, _, rfl, z, dz, l2, l4, 60, X, Y, rfl, z11, L2, L4, Nat.le_refl _, by lia, by lia, sX, sY, rX, rY, fun H12 s12 => ⟨_, rfl, iteF ?_⟩⟩
      have s9c := s11.trans s12
      have tl12 := s9c _ _ (s59 _ _ h5)
      refine ⟨_, rfl, _, rfl, _, rfl, m, rfl, l2, _, rfl, SqL.of (s9c _ _ g2'), fun b1 nb1 => ?_⟩
      rw [cut_take]
      obtain ⟨H13, e13, s13, h13⟩ := newG (.lst ((ts2.take m).map V.ref)) nb1
      rw [e13]
      refine ⟨_, rfl, _, rfl, m, rfl, l4, _, rfl, SqL.of (s13 _ _ (s9c _ _ h9)), fun b2 nb2 => ?_⟩
      rw [cut_take]
      obtain ⟨H14, e14, s14, h14⟩ := newG (.lst ((ts4.take m).map V.ref)) nb2
      rw [e14]
      have s9e := s9c.trans (s13.trans s14)
      refine ⟨_, rfl, tl, dy, b1, b2, m, X.take m, Y.take m, rfl, (s13.trans s14) _ _ tl12, ⟨_, s14 _ _ h13, (R2'.same s9e).take m⟩, ⟨_, h14, (R4'.same s9e).take m⟩, hm, by rw [List.length_take]; lia, by rw [List.length_take]; lia, sX.take m, sY.take m, fun r y => rX r (List.mem_of_mem_take y), fun r y => rY r (List.mem_of_mem_take y), fun H15 s15 => ⟨_, rfl, iteF ?_⟩⟩
      have tf := t9.trans (s9e.trans s15)
      exact ⟨_, rfl, _, rfl, _, rfl, a, u, dx, tl, dy, _, ns, rfl, tf.seq hS, (((s4.trans s5).trans s59).trans (s9e.trans s15)) _ _ u3, (s9e.trans s15) _ _ (s59 _ _ h5), fun H' _ => q H'⟩
    · refine ⟨_, rfl, a, _, rfl, .inl hS, _, _, rfl, rfl, _, rfl, ?_⟩
      refine ite2 (fun h => ?_) fun _ => rest _ _ ⟨rfl, 0, rfl⟩
      have hlt : 0 < ns.length := by
        have h := of_decide_eq_true h
        rw [List.length_map] at h
        lia
      have h0 : (ns.map V.int)[0]? = some (.int ns[0]) := by rw [List.getElem?_map, List.getElem?_eq_getElem hlt]; rfl
      exact ⟨_, rfl, a, _, 0, _, rfl, rfl, hS, atI_nat (j := 0) h0, rest _ _ ⟨rfl, _, rfl⟩⟩
end
end FR


set_option linter.all false
set_option maxRecDepth 100000
set_option maxHeartbeats 4000000
namespace FR
open PySem L2
theorem all_mk {l : PySem.W.OpenLaw} {w : World} {K : PySem.W.Frag} {h : Heap} {mg : Str → Option Value} {fa c_Tally c_Used c_Listed f0 f1 f2 f3 f4 f5 f6 f7 f8 f9 f10 f11 f12 f13 f14 f15 f16 f17 f18 f19 f20 f21 f22 f23 f24 f25 f26 f27 f28 f29 : Addr} (X : K.In h) (G : h.Ns mainGlobals mg) (hfa : mg "law" = some (.ref fa))
    {od an : Option Addr} {sl : Array (Option Value)} {oc kV dc pm cd ct : Value}
    (nTally : L2.Dn K "Tally" c_Tally)
    (nUsed : L2.Dn K "Used" c_Used)
    (nListed : L2.Dn K "Listed" c_Listed)
    (d0 : AL K c_Used "nothing" "Used.nothing" s_Used_nothing f0)
    (d1 : AL K c_Used "blank" "Used.blank" s_Used_blank f1)
    (d2 : AL K c_Used "of_rule" "Used.of_rule" s_Used_of_rule f2)
    (d3 : AL K c_Used "either" "Used.either" s_Used_either f3)
    (d4 : AL K c_Used "both" "Used.both" s_Used_both f4)
    (d5 : DL K "begins_with" s_begins_with f5)
    (d6 : DL K "group_from" s_group_from f6)
    (d7 : DL K "longer_rows" s_longer_rows f7)
    (d8 : ALe K c_Listed "__init__" "Listed.__init__" s_Listed___init__ f8 60)
    (d9 : AL K c_Listed "nothing" "Listed.nothing" s_Listed_nothing f9)
    (d10 : AL K c_Listed "blank" "Listed.blank" s_Listed_blank f10)
    (d11 : AL K c_Listed "of_rule" "Listed.of_rule" s_Listed_of_rule f11)
    (d12 : AL K c_Listed "either" "Listed.either" s_Listed_either f12)
    (d13 : AL K c_Listed "both" "Listed.both" s_Listed_both f13)
    (d14 : DL K "_law_mixed" s__law_mixed f14)
    (d15 : DL K "_law_used" s__law_used f15)
    (d16 : DL K "_law_rows" s__law_rows f16)
    (d17 : DL K "_law_copy" s__law_copy f17)
    (d18 : DL K "_law_numbers" s__law_numbers f18)
    (d19 : DL K "_law_merged" s__law_merged f19)
    (d20 : DL K "_law_either" s__law_either f20)
    (d21 : DL K "_law_both" s__law_both f21)
    (d22 : DL K "_law_used_right" s__law_used_right f22)
    (d23 : DL K "_law_lists" s__law_lists f23)
    (d24 : DL K "_law_joined" s__law_joined f24)
    (d25 : DL K "_law_listed_right" s__law_listed_right f25)
    (d26 : DL K "_law_begun" s__law_begun f26)
    (d27 : DL K "_law_all_used" s__law_all_used f27)
    (d28 : DL K "_law_all_listed" s__law_all_listed f28)
    (d29 : PySem.W.nsIn K mainGlobals "law" = some (some (.ref f29)))
    (l29 : K.lookup f29 = some ⟨oc, od, .func (PySem.W.fnOf "law" "law" (defArgs s_law) (defBody s_law) (defScope s_law) .none kV dc pm an cd ct), sl⟩)
    (c29 : PySem.W.codeIn K cd "law" = true)
    (k29 : PySem.W.keepIn K (.ref f29) = true)
    (zsorted : Zn K "sorted")
    (zset : Zn K "set")
    (zlen : Zn K "len")
    (zlist : Zn K "list")
    (zrange : Zn K "range")
    (zisinstance : Zn K "isinstance")
    (zbool : Zn K "bool")
    (zint : Zn K "int")
    (pgListed : CL K c_Listed)
    (pgUsed : CL K c_Used)
    (naListed_most : On K c_Listed "most")
    (mkUsed : PySem.W.makesIn K c_Used = true)
    (inUsed : PySem.W.findIn K (.ref c_Used) "__init__" = some (some (.builtin "object.__init__")))
    (kcUsed : PySem.W.keepIn K (.ref c_Used) = true)
    (mkListed : PySem.W.makesIn K c_Listed = true)
    (kcListed : PySem.W.keepIn K (.ref c_Listed) = true)
    (eca_Used : PySem.W.findIn K (.ref c_Used) "__class__" = some (some (.builtin "object.__class__")))
    (ehm_Used : PySem.W.mroIn K c_Used (.type "object") = some true)
    (eca_Listed : PySem.W.findIn K (.ref c_Listed) "__class__" = some (some (.builtin "object.__class__")))
    (ehm_Listed : PySem.W.mroIn K c_Listed (.type "object") = some true)
    (ehn_ : PySem.W.specialIn K (.builtin "object.__class__") "__get__" = some (some (.builtin "getset_descriptor.__get__")))
    (ehtk_ : PySem.W.takesIn K (.builtin "object.__class__") = some true)
    (ekUT : PySem.W.kitOne K (.ref c_Used) (.ref c_Tally) = some true)
    (ekLT : PySem.W.kitOne K (.ref c_Listed) (.ref c_Tally) = some true)
    (ekUL : PySem.W.kitOne K (.ref c_Used) (.ref c_Listed) = some false)
    (ekLU : PySem.W.kitOne K (.ref c_Listed) (.ref c_Used) = some false) :
    ∃ fd : FuncData, (∀ (s : Shared) (v : Value), BindsTo s fd ⟨[v], []⟩ [("_law_script", v)]) ∧ ∀ base : Heap, K.In base → base.Ns mainGlobals mg → FnOk l.prog w K mg base CX0 6 fa fd ["_law_script"] (spLaw K) := by
  have e := hfa.symm.trans (PySem.W.mg_of X G d29)
  cases e
  have m := fun {x : Str} {v : Value} (h : PySem.W.nsIn K mainGlobals x = some (some v)) => PySem.W.mg_of X G h
  have Y : HE l.prog w K h mg := ⟨X, G⟩
  have n := fun {x : Str} {f : Addr} (h : L2.Dn K x f) => (PySem.W.mg_of X G h : mg x = some (.ref f))
  have z := fun {x : Str} (h : Zn K x) => PySem.W.mg_none_of X G h
  have T : Txt K mg ⟨c_Tally, c_Used, c_Listed, 0⟩ := ⟨z zsorted, z zset, z zlen, z zlist, z zrange, z zisinstance, z zbool, z zint, n nTally, n nUsed, n nListed, pgListed.of, pgUsed.of, naListed_most, ⟨mkUsed, inUsed, kcUsed⟩, eca_Used, ehm_Used, eca_Listed, ehm_Listed, ehn_, ehtk_, ekUT, ekLT, ekUL, ekLU⟩
  have F29 := fun_mk (st := s_law) l29 c29 k29
  have U_Used_nothing := usA Y d0 fun F => ok_Used_nothing F T
  have U_Used_blank := usA Y d1 fun F => ok_Used_blank F T
  have U_Used_of_rule := usA Y d2 fun F => ok_Used_of_rule F T
  have U_Used_either := usA Y d3 fun F => ok_Used_either F T
  have U_Used_both := usA Y d4 fun F => ok_Used_both F T
  have U_begins_with := usD Y d5 fun F => ok_begins_with F T
  have U_group_from := usD Y d6 fun F => ok_group_from F T U_begins_with
  have U_longer_rows := usD Y d7 fun F => ok_longer_rows F T
  have U_Listed___init__ := usCe Y mkListed kcListed d8 fun F => ok_Listed___init__ F T
  have U_Listed_nothing := usA Y d9 fun F => ok_Listed_nothing F T
  have U_Listed_blank := usA Y d10 fun F => ok_Listed_blank F T
  have U_Listed_of_rule := usA Y d11 fun F => ok_Listed_of_rule F T
  have U_Listed_either := usA Y d12 fun F => ok_Listed_either F T
  have U_Listed_both := usA Y d13 fun F => ok_Listed_both F T U_group_from U_longer_rows
  have U__law_mixed := usD Y d14 fun F => ok__law_mixed F T
  have U__law_used := usD Y d15 fun F => ok__law_used F T U__law_mixed
  have U__law_rows := usD Y d16 fun F => ok__law_rows F T U__law_mixed
  have U__law_copy := usD Y d17 fun F => ok__law_copy F T
  have U__law_numbers := usD Y d18 fun F => ok__law_numbers F T
  have U__law_merged := usD Y d19 fun F => ok__law_merged F T
  have U__law_either := usD Y d20 fun F => ok__law_either F T U__law_merged U__law_copy
  have U__law_both := usD Y d21 fun F => ok__law_both F T U__law_merged
  have U__law_used_right := usD Y d22 fun F => ok__law_used_right F T U__law_copy U__law_numbers U__law_either U__law_both U_Used_both U_Used_either
  have U__law_lists := usD Y d23 fun F => ok__law_lists F T U__law_numbers
  have U__law_joined := usD Y d24 fun F => ok__law_joined F T
  have U__law_listed_right := usD Y d25 fun F => ok__law_listed_right F T U__law_lists U__law_joined U_Listed_both U_Listed_either
  have U__law_begun := usD Y d26 fun F => ok__law_begun F T U__law_lists U__law_numbers U_Used_blank U_Used_nothing U_Listed_nothing U_Used_of_rule U_Listed_of_rule U_Listed_blank
  have U__law_all_used := usD Y d27 fun F => ok__law_all_used F T U__law_used U__law_begun U__law_used_right U__law_either U__law_both
  have U__law_all_listed := usD Y d28 fun F => ok__law_all_listed F T U__law_rows U__law_listed_right U__law_joined
  exact ⟨PySem.W.fnOf "law" "law" (defArgs s_law) (defBody s_law) (defScope s_law) .none kV dc pm an cd ct, fun s v => .of_eq rfl, fun base _ _ => ok_law F29 T U__law_all_used U__law_begun U__law_all_listed U__law_listed_right U_Listed___init__⟩
theorem walk {l : PySem.W.OpenLaw} {q : Program} {loose : List Str} {XP : (Str → Option Value) → Heap → Prop} {YP : World → Heap → Prop} {d : DefRec} {K : Params → PySem.W.Frag} (hn : l.most = some 63) (hdf : d.params.defaults = [])
    (hY : ∀ (w : World) (h : Heap), YP w h → (K w.params).In h)
    (F : ∀ (w : World) (mg : Str → Option Value) (fa : Addr) (h : Heap), (K w.params).In h → h.Ns mainGlobals mg → mg d.name = some (.ref fa) →
      ∃ fd : FuncData, (∀ (s : Shared) (u : Value), BindsTo s fd ⟨[u], []⟩ [("_law_script", u)]) ∧ ∀ base : Heap, (K w.params).In base → base.Ns mainGlobals mg → FnOk l.prog w (K w.params) mg base CX0 6 fa fd ["_law_script"] (spLaw (K w.params))) :
    PySem.W.WalkO q loose XP YP l.row.toRowW d [] (fun f vs => PySem.call f vs) :=
  L2.walk_of (n := 63) (k := 6) (x := "_law_script") (CX := fun _ => CX0) (sp := fun w => spLaw (K w.params)) hn (by decide) hdf ⟨rfl, by decide, by decide⟩ hY F (fun _ _ a ns hl hO hS => law_start hl hO hS) fun _ _ _ _ _ z => z
end FR
open PySem PySem.W PyProof.Rows
structure PySem.W.Fast:Prop where(tw3871485068674217163 tw581591079878529280 tw13708728036447411634 tw4453163770913164222 tw4705769339139467141 tw11667972143527053991 tw3644819861898165326 tw10196955487837789800 tw10621083625101499654 tw390892893551877886 tw12085402153384658061 tw2771461054361615238 tw2475897037624604286 tw2150710024296766823 tw3230778605085700620 tw18281462722112467919 tw14299141043998102645 tw1708896174679093624 tw8219692954451818566 tw15552613278984571795 tw14463535024093641626 tw12680651954835660278 tw15583020406579835379 tw7971629710689157787 tw13654536187338966880 tw13126875332630480523 tw7109733556446337001 tw2120172208480150691 tw10791378638032541044 tw6324267756779433946 tw2193844610112453058 tw10256563588403287170 tw13355196673430631759 tw15214072623592761697 tw16829229639856181225 tw16373087361139499563 tw15792850807956079251 tw3652063627577435070 tw10025783591321291458 tw11200889538035843189 tw15698135344813430113 tw12535159862833207413 tw3621369299242705647 tw12260952752971962308 tw10452715237206670049 tw4206797466849289290 tw13902627615008644983 tw16471666716411080629 tw7576347051583813616 tw16105910606494044098 tw12083643083222773274 tw1250935130810995785 tw1452864316502471162 tw2292879063746658446 tw14116307505556455613 tw3674234791191069220 tw14593572039987789670 tw17115615852250363932 tw2112773127562861975 tw7333175595335478393 tw6070807203907634042 tw7644605555460687452 tw13278689370258066132 tw11188558385742971107 tw16329869214743249742 tw8647403357093114952 tw10630180809914488100 tw5452055570655125315 tw9954511040239855673 tw2450851833265793449 tw2407606270368269468 tw996791671916159454 tw11350451552951923368 tw4208375297849540853 tw13423741342255895936 tw900073881482670779 tw970014870965406509 tw16604531545070866300 tw14935078954840994462 tw8130096564957355754 tw12576450371896508300 tw2020387954198003634 tw6627895928339163961 tw12274291377723973059 tw7136539613974643836 tw7496282296141622062 tw11762816848005935820 tw12757308977958273566 tw8527650061899695071 tw15530606744071278627 tw14344388263483599432 tw14114045529986055791 tw13948439465795408277 tw6635793613235603785 tw5655233835685998383 tw14752715119751646999 tw3737776009296803059 tw17069650858213065028 tw17082422442313293155:True)
set_option maxRecDepth 100000 in
set_option maxHeartbeats 0 in
theorem PySem.Challenge.cw_forestread_k42_used_and_listed_holds : PySem.Challenge.rw_forestread_k42_used_and_listed.Holds := by
  w_on; o_law; k_head; (case hw => w_witness2)
  k_fill
  refine FR.walk (l := PySem.Challenge.rw_forestread_k42_used_and_listed) rfl rfl (fun w h Y => PySem.W.kIn_of Y) ?F
  case F =>
    intro w mg fa h KX G hmg
    refine' FR.all_mk KX G hmg ..
    any_goals first | k_is | (delta L2.Dn; k_is) | (delta L2.Zn; k_is) | (delta L2.On; k_is) | (refine' L2.DL.mk ?_ (L2.Ln.mk ?_ ?_ ?_); any_goals k_is) | (refine' L2.AL.mk (L2.An.mk ?_ ?_) (L2.Ln.mk ?_ ?_ ?_); any_goals k_is) | (refine' L2.CL.mk ?_ ?_ ?_ ?_; any_goals k_is) | k_exc | kts_exm | kit_is | (refine' L2.ALe.mk (L2.An.mk ?_ ?_) (L2.LnE.mk ?_ ?_ ?_ ?_ ?_); any_goals first | k_is | rfl)
