import PyProof.Rows.All
import Wide.All
import OpenK.AllK
import Wide.FinOn
import HandS.ForMost
import HandS.Wide
import HandS.WideBits
import HandS.Deep
import HandS.IsInst
import HandS.TupAny
import HandS.Flow
import HandS.Walk
import HandS.Codes
import HandS.Text
import HandS.StrMore
import HandS.More
import HandS.CallLocal
import HandS.Set
import PyProof.Rows.SortShellAny
import PyProof.Rows.SetFrom
import HandS.SetKeys
import HandS.FStr
import HandS.Ends
import HandS.Head0
import HandS.Exc
import HandS.ExcOwn
import HandS.ExcIs
import HandS.ExcField
import HandS.WordsExc
import HandS.TryMany
import PyProof.ReprRoads
import PyProof.P3In
import PyProof.FactsAll.dict_1
import PyProof.FactsAll.subtypes_4
import HandS.FStrTup
import HandS.Style
import HandS.Defaults
import PySem.Challenge.RW_vasttypes_k14_renumbered_trees
set_option Elab.async false
set_option linter.all false
set_option maxRecDepth 100000
set_option maxHeartbeats 4000000
/-! steps of a reading: names, constants, ints; then the facts of the context -/
local macro_rules | `(tactic| walk_at "ne") => `(tactic| first | assumption | exact Ne.symm (by assumption) | exact L2.ne_of_none (by assumption) (by assumption) | exact L2.ne_of_none L2.upd_same (by assumption) | exact Ne.symm (L2.ne_of_none L2.upd_same (by assumption)) | exact Ne.symm (L2.ne_of_none (by assumption) (by assumption)))
local macro_rules | `(tactic| walk_at "hp") => `(tactic| first | assumption | exact L2.upd_same | exact (L2.upd_ne (by walk_at "ne")).trans (by assumption) | exact (L2.upd_ne (by walk_at "ne")).trans L2.upd_same | exact (L2.upd_ne (by walk_at "ne")).trans ((L2.upd_ne (by walk_at "ne")).trans (by assumption)) | exact (L2.upd_ne (by walk_at "ne")).trans ((L2.upd_ne (by walk_at "ne")).trans L2.upd_same))
local macro_rules | `(tactic| walk_at "cn") => `(tactic| first | assumption | omega | rfl | (constructor <;> omega) | (refine .inl ?_; constructor <;> omega) | (refine .inr ?_; constructor <;> omega) | decide | (refine Vt.sz ?_; simp; done) | (refine Vt.sz ?_; simp; omega))
local macro_rules | `(tactic| walk_at "rd") => `(tactic| (repeat (first
  | refine ⟨_, rfl, ?_⟩
  | refine ⟨_, _, rfl, rfl, ?_⟩
  | refine .inl ⟨_, rfl, ?_⟩
  | (refine ⟨_, _, _, _, rfl, rfl, .inl (.inl (by walk_at "hp")), rfl, ?_⟩)
  | (refine ⟨_, _, _, _, rfl, rfl, (by walk_at "hp"), rfl, ?_⟩)
  | (refine And.intro (by walk_at "cn") ?_))))

namespace Vt
open PySem PySem.Spec PyProof.Rows L2
def topS (i : Nat) : Stmt := PySem.Challenge.pw_vasttypes_k14_renumbered_trees.main.body.getD i (.Pass ⟨0, 0, 0, 0⟩)
/-- a def of the text that keeps a promise, wherever it stands -/
def DefOk (P : Program) (w : World) (K : PySem.W.Frag) (mg : Str → Option Value) (base : Heap) (CX : CXT) (k : Nat) (x : Str) (ps : List Str) (sp : Sp) : Prop :=
  ∃ f fd, FnOk P w K mg base CX k f fd ps sp ∧ mg x = some (.ref f) ∧ PySem.W.keepIn K (.ref f) = true ∧ Binds K fd ps []
/-- a def as it stands behind the top -/
def Stands (K : PySem.W.Frag) (mg : Str → Option Value) (x : Str) (st : Stmt) (ps : List Str) : Prop :=
  ∃ f fd, Fun K x x st f fd ∧ mg x = some (.ref f) ∧ Binds K fd ps []
/-- the built-in names mean what they meant -/
structure Blt (mg : Str → Option Value) : Prop where
  int : mg "int" = none
  len : mg "len" = none
  list : mg "list" = none
  tuple : mg "tuple" = none
  str : mg "str" = none
  bool : mg "bool" = none
  set : mg "set" = none
  isinstance : mg "isinstance" = none
  all : mg "all" = none
  sorted : mg "sorted" = none
  range : mg "range" = none
  enumerate : mg "enumerate" = none
  zip : mg "zip" = none
  reversed : mg "reversed" = none
  repr : mg "repr" = none
/-- all but what stands at s is as it was -/
def Keep (s : Addr) (H H' : Hp) : Prop := ∀ b o, b ≠ s → H b = some o → H' b = some o
/-- the state of a source of draws: a list of three ints -/
def Src (H : Hp) (s : Addr) : Prop := ∃ x y z : Int, H s = some (.lst [.int x, .int y, .int z])
theorem Keep.refl (s : Addr) (H : Hp) : Keep s H H := fun _ _ _ h => h
theorem Keep.trans {s : Addr} {H H1 H2 : Hp} (a : Keep s H H1) (b : Keep s H1 H2) : Keep s H H2 := fun c o n h => b c o n (a c o n h)
theorem Keep.wr {s : Addr} {H : Hp} {o : HO} : Keep s H (L2.upd H s o) := fun b u n h => by rw [upd_ne n]; exact h
theorem Keep.new {s p : Addr} {H : Hp} {o : HO} (h : H p = none) : Keep s H (L2.upd H p o) := fun b u n e => by rw [upd_ne (ne_of_none e h)]; exact e
theorem Keep.mut {s p : Addr} {H H' : Hp} {o : HO} (k : Keep s H H') (h : H p = none) : Keep s H (L2.upd H' p o) := fun b u n e => by rw [upd_ne (ne_of_none e h)]; exact k b u n e
theorem _root_.L2.Same.keep {s : Addr} {H H' : Hp} (h : Same H H') : Keep s H H' := fun b o _ e => h b o e
theorem Keep.same {s : Addr} {H H1 H2 : Hp} (k : Keep s H H1) (h : Same H1 H2) : Keep s H H2 := fun b o n e => h b o (k b o n e)
theorem Src.new {s p : Addr} {H : Hp} {o : HO} (h : Src H s) (hp : H p = none) : Src (L2.upd H p o) s := by
  obtain ⟨x, y, z, e⟩ := h
  exact ⟨x, y, z, by rw [upd_ne (ne_of_none e hp)]; exact e⟩
theorem Src.same {s : Addr} {H H' : Hp} (h : Src H s) (e : Same H H') : Src H' s := by
  obtain ⟨x, y, z, q⟩ := h
  exact ⟨x, y, z, e _ _ q⟩
theorem Src.ne {s p : Addr} {H : Hp} (h : Src H s) (hp : H p = none) : p ≠ s := by
  obtain ⟨x, y, z, e⟩ := h
  exact (ne_of_none e hp).symm
theorem Src.wr {s p : Addr} {H : Hp} {o : HO} (h : Src H s) (hn : p ≠ s) : Src (L2.upd H p o) s := by
  obtain ⟨x, y, z, e⟩ := h
  exact ⟨x, y, z, by rw [upd_ne hn.symm]; exact e⟩
theorem same_new {H : Hp} {p : Addr} (h : H p = none) (o : HO) : Same H (upd H p o) := fun b u q => by rw [upd_ne (ne_of_none q h)]; exact q
theorem sz {n : Nat} (h : n ≤ 1000) : n ≤ sizeLine := Nat.le_of_lt (small1000 h)
/-- not what a source looks like -/
def No3 (xs : List V) : Prop := ∀ x y z : Int, xs ≠ [.int x, .int y, .int z]
theorem No3.of_ref {xs : List V} (h : ∀ v ∈ xs, ∀ i : Int, v ≠ .int i) : No3 xs := fun x y z e => h (.int x) (by rw [e]; exact List.mem_cons_self) x rfl
theorem no3_strs (ns : List Str) : No3 (ns.map V.str) := No3.of_ref fun v hv i e => by
  obtain ⟨n, _, q⟩ := List.mem_map.mp hv
  rw [e] at q
  cases q
theorem Keep.seq {K : PySem.W.Frag} {s a : Addr} {H H' : Hp} {xs : List V} (k : Keep s H H') (hs : Src H s) (hx : No3 xs) (h : SqL K H a xs) : SqL K H' a xs := by
  obtain ⟨x, y, z, e⟩ := hs
  rcases h with (h | ⟨o, h⟩) | h
  · refine .inl (.inl (k _ _ (fun q => ?_) h))
    rw [q, e] at h
    injection h with h
    injection h with h
    exact hx x y z h.symm
  · refine .inl (.inr ⟨o, k _ _ (fun q => ?_) h⟩)
    rw [q, e] at h
    injection h with h
    cases h
  · exact .inr h
theorem Keep.tup {K : PySem.W.Frag} {s a : Addr} {H H' : Hp} {xs : List V} (k : Keep s H H') (hs : Src H s) (h : SqT K H a xs) : SqT K H' a xs := by
  obtain ⟨x, y, z, e⟩ := hs
  rcases h with (h | ⟨o, h⟩) | h
  · refine .inl (.inl (k _ _ (fun q => ?_) h))
    rw [q, e] at h
    injection h with h
    cases h
  · refine .inl (.inr ⟨o, k _ _ (fun q => ?_) h⟩)
    rw [q, e] at h
    injection h with h
    cases h
  · exact .inr h
theorem _root_.L2.Same.tupS {K : PySem.W.Frag} {a : Addr} {H H' : Hp} {xs : List V} (k : Same H H') (h : SqT K H a xs) : SqT K H' a xs := by
  rcases h with (h | ⟨o, h⟩) | h
  · exact .inl (.inl (k _ _ h))
  · exact .inl (.inr ⟨o, k _ _ h⟩)
  · exact .inr h

/-! ### terms -/
/-- what a node has but the terms within it -/
inductive Hd where
  | var (n : Str) | int (k : Int) | bool (b : Bool) | fn (n : Str) | app | lt (n : Str) | rc (n : Str) | cond | tup | part (k size : Int) | record (ls : List Str) | field (n : Str) | wth (n : Str)
inductive T where
  | node (h : Hd) (ks : List T)
abbrev T.hd : T → Hd | .node h _ => h
abbrev T.kids : T → List T | .node _ ks => ks
/-- the first word of a node -/
def Hd.word : Hd → Str
  | .var _ => "var" | .int _ => "int" | .bool _ => "bool" | .fn _ => "fun" | .app => "app" | .lt _ => "let" | .rc _ => "rec" | .cond => "if" | .tup => "tuple" | .part _ _ => "part" | .record _ => "record" | .field _ => "field" | .wth _ => "with"
/-- the value v stands for a term in the heap H: its own tuple, and the terms within it -/
inductive Tm (K : PySem.W.Frag) (H : Hp) : V → T → Prop
  | var {a n} : SqT K H a [.str "var", .str n] → Tm K H (.ref a) (.node (.var n) [])
  | int {a k} : SqT K H a [.str "int", .int k] → Tm K H (.ref a) (.node (.int k) [])
  | bool {a b} : SqT K H a [.str "bool", .bl b] → Tm K H (.ref a) (.node (.bool b) [])
  | fn {a n v t} : SqT K H a [.str "fun", .str n, v] → Tm K H v t → Tm K H (.ref a) (.node (.fn n) [t])
  | app {a v t u r} : SqT K H a [.str "app", v, u] → Tm K H v t → Tm K H u r → Tm K H (.ref a) (.node .app [t, r])
  | lt {a n v t u r} : SqT K H a [.str "let", .str n, v, u] → Tm K H v t → Tm K H u r → Tm K H (.ref a) (.node (.lt n) [t, r])
  | rc {a n v t u r} : SqT K H a [.str "rec", .str n, v, u] → Tm K H v t → Tm K H u r → Tm K H (.ref a) (.node (.rc n) [t, r])
  | cond {a v t u r z q} : SqT K H a [.str "if", v, u, z] → Tm K H v t → Tm K H u r → Tm K H z q → Tm K H (.ref a) (.node .cond [t, r, q])
  | tup {a l : Addr} {xs : List V} {ts : List T} : SqT K H a [.str "tuple", .ref l] → SqL K H l xs → xs.length = ts.length → (∀ (i : Nat) (v : V) (t : T), xs[i]? = some v → ts[i]? = some t → Tm K H v t) → Tm K H (.ref a) (.node .tup ts)
  | part {a k z v t} : SqT K H a [.str "part", .int k, .int z, v] → Tm K H v t → Tm K H (.ref a) (.node (.part k z) [t])
  | record {a l : Addr} {bs : List Addr} {us : List V} {ls : List Str} {ts : List T} : SqT K H a [.str "record", .ref l] → SqL K H l (bs.map V.ref) → bs.length = ts.length → ls.length = ts.length → us.length = ts.length →
      (∀ (i : Nat) (b : Addr) (n : Str) (u : V), bs[i]? = some b → ls[i]? = some n → us[i]? = some u → SqT K H b [.str n, u]) → (∀ (i : Nat) (u : V) (t : T), us[i]? = some u → ts[i]? = some t → Tm K H u t) → Tm K H (.ref a) (.node (.record ls) ts)
  | field {a v t n} : SqT K H a [.str "field", v, .str n] → Tm K H v t → Tm K H (.ref a) (.node (.field n) [t])
  | wth {a v t n u r} : SqT K H a [.str "with", v, .str n, u] → Tm K H v t → Tm K H u r → Tm K H (.ref a) (.node (.wth n) [t, r])

/-- a pairing by place -/
def Al {α β : Type} (R : α → β → Prop) (xs : List α) (ys : List β) : Prop := xs.length = ys.length ∧ ∀ (i : Nat) (x : α) (y : β), xs[i]? = some x → ys[i]? = some y → R x y
theorem Al.nil {α β : Type} {R : α → β → Prop} : Al R [] [] := ⟨rfl, fun i x y h => by simp at h⟩
theorem Al.snoc {α β : Type} {R : α → β → Prop} {xs : List α} {ys : List β} {x : α} {y : β} (h : Al R xs ys) (r : R x y) : Al R (xs ++ [x]) (ys ++ [y]) := by
  obtain ⟨l, f⟩ := h
  refine ⟨by simp [l], fun i u v hu hv => ?_⟩
  by_cases q : i < xs.length
  · rw [List.getElem?_append_left q] at hu
    rw [List.getElem?_append_left (by omega)] at hv
    exact f i u v hu hv
  · rw [List.getElem?_append_right (by omega)] at hu
    rw [List.getElem?_append_right (by omega)] at hv
    have e : i - xs.length = 0 := by
      have := (List.getElem?_eq_some_iff.mp hu).1
      simp at this
      omega
    rw [e] at hu
    rw [show i - ys.length = 0 by omega] at hv
    simp at hu hv
    rw [← hu, ← hv]
    exact r
theorem Al.mono {α β : Type} {R R' : α → β → Prop} {xs : List α} {ys : List β} (h : Al R xs ys) (f : ∀ x y, y ∈ ys → R x y → R' x y) : Al R' xs ys :=
  ⟨h.1, fun i x y a b => f x y (List.mem_of_getElem? b) (h.2 i x y a b)⟩
theorem Tm.keep {K : PySem.W.Frag} {s : Addr} {H H' : Hp} (k : Keep s H H') (hs : Src H s) {v : V} {t : T} (h : Tm K H v t) : Tm K H' v t := by
  induction h with
  | var h => exact .var (k.tup hs h)
  | int h => exact .int (k.tup hs h)
  | bool h => exact .bool (k.tup hs h)
  | fn h _ i => exact .fn (k.tup hs h) i
  | app h _ _ i j => exact .app (k.tup hs h) i j
  | lt h _ _ i j => exact .lt (k.tup hs h) i j
  | rc h _ _ i j => exact .rc (k.tup hs h) i j
  | cond h _ _ _ i j l => exact .cond (k.tup hs h) i j l
  | @tup a l xs ts h h2 l1 f i =>
    refine .tup (k.tup hs h) (k.seq hs (No3.of_ref fun v hv j e => ?_) h2) l1 i
    obtain ⟨n, hn, q⟩ := List.getElem_of_mem hv
    have q1 : xs[n]? = some v := by rw [List.getElem?_eq_getElem hn, q]
    have q2 := f n v (ts[n]'(by omega)) q1 (List.getElem?_eq_getElem (by omega))
    rw [e] at q2
    cases q2
  | part h _ i => exact .part (k.tup hs h) i
  | record h h2 l1 l2 l3 f g i =>
    refine .record (k.tup hs h) (k.seq hs (No3.of_ref fun v hv j e => ?_) h2) l1 l2 l3 (fun j b n u a1 a2 a3 => k.tup hs (f j b n u a1 a2 a3)) i
    obtain ⟨b, _, q⟩ := List.mem_map.mp hv
    rw [e] at q
    cases q
  | field h _ i => exact .field (k.tup hs h) i
  | wth h _ _ i j => exact .wth (k.tup hs h) i j
theorem Tm.same {K : PySem.W.Frag} {H H' : Hp} (k : Same H H') {v : V} {t : T} (h : Tm K H v t) : Tm K H' v t := by
  induction h with
  | var h => exact .var (Same.tupS k h)
  | int h => exact .int (Same.tupS k h)
  | bool h => exact .bool (Same.tupS k h)
  | fn h _ i => exact .fn (Same.tupS k h) i
  | app h _ _ i j => exact .app (Same.tupS k h) i j
  | lt h _ _ i j => exact .lt (Same.tupS k h) i j
  | rc h _ _ i j => exact .rc (Same.tupS k h) i j
  | cond h _ _ _ i j l => exact .cond (Same.tupS k h) i j l
  | tup h h2 l1 f i => exact .tup (Same.tupS k h) (k.seq h2) l1 i
  | part h _ i => exact .part (Same.tupS k h) i
  | record h h2 l1 l2 l3 f g i => exact .record (Same.tupS k h) (k.seq h2) l1 l2 l3 (fun j b n u a1 a2 a3 => Same.tupS k (f j b n u a1 a2 a3)) i
  | field h _ i => exact .field (Same.tupS k h) i
  | wth h _ _ i j => exact .wth (Same.tupS k h) i j

/-! ### what a term is -/
def isName (n : Str) : Prop := 1 ≤ n.length ∧ n.length ≤ 8 ∧ ∀ c ∈ n.cps.toList, 97 ≤ c ∧ c ≤ 122
instance (n : Str) : Decidable (isName n) := by unfold isName; infer_instance
/-- the order of texts -/
def strLt (a b : Str) : Prop := a.cps.toList < b.cps.toList
def okHd : Hd → Nat → Prop
  | .var n, k => k = 0 ∧ isName n
  | .int i, k => k = 0 ∧ -(10 ^ 30) ≤ i ∧ i ≤ 10 ^ 30
  | .bool _, k => k = 0
  | .fn n, k => k = 1 ∧ isName n
  | .app, k => k = 2
  | .lt n, k => k = 2 ∧ isName n
  | .rc n, k => k = 2 ∧ isName n
  | .cond, k => k = 3
  | .tup, k => 2 ≤ k ∧ k ≤ 6
  | .part i z, k => k = 1 ∧ 0 ≤ i ∧ i < z ∧ 2 ≤ z ∧ z ≤ 6
  | .record ls, k => ls.length = k ∧ k ≤ 12 ∧ (∀ n ∈ ls, isName n) ∧ ls.Pairwise strLt
  | .field n, k => k = 1 ∧ isName n
  | .wth n, k => k = 2 ∧ isName n
/-- of a rec the first term within is a function -/
def okRec : Hd → List T → Prop
  | .rc _, .node (.fn _) _ :: _ => True
  | .rc _, _ => False
  | _, _ => True
mutual
def T.size : T → Nat
  | .node _ ks => 1 + T.sizes ks
def T.sizes : List T → Nat
  | [] => 0
  | t :: r => t.size + T.sizes r
end
mutual
def T.deep : T → Nat
  | .node _ ks => 1 + T.deeps ks
def T.deeps : List T → Nat
  | [] => 0
  | t :: r => max t.deep (T.deeps r)
end
/-- a term as a law draws it: of a kind, at most three terms within each -/
inductive Wf : T → Prop
  | mk {h ks} : okHd h ks.length → okRec h ks → ks.length ≤ 3 → (∀ t ∈ ks, Wf t) → Wf (.node h ks)
theorem Wf.hd {h : Hd} {ks : List T} (w : Wf (.node h ks)) : okHd h ks.length := by cases w; assumption
theorem Wf.rc {h : Hd} {ks : List T} (w : Wf (.node h ks)) : okRec h ks := by cases w; assumption
theorem Wf.few {h : Hd} {ks : List T} (w : Wf (.node h ks)) : ks.length ≤ 3 := by cases w; assumption
theorem Wf.kid {h : Hd} {ks : List T} (w : Wf (.node h ks)) {t : T} (m : t ∈ ks) : Wf t := by
  cases w with
  | mk _ _ _ f => exact f t m
/-- a term as the document has it: any number of terms within a tuple, a record -/
inductive Wt : T → Prop
  | mk {h ks} : okHd h ks.length → okRec h ks → (∀ t ∈ ks, Wt t) → Wt (.node h ks)
theorem Wf.wt {t : T} (w : Wf t) : Wt t := by
  induction w with
  | mk a b _ _ ih => exact .mk a b ih
theorem Wt.hd {h : Hd} {ks : List T} (w : Wt (.node h ks)) : okHd h ks.length := by cases w; assumption
theorem Wt.rc {h : Hd} {ks : List T} (w : Wt (.node h ks)) : okRec h ks := by cases w; assumption
theorem Wt.kid {h : Hd} {ks : List T} (w : Wt (.node h ks)) {t : T} (m : t ∈ ks) : Wt t := by
  cases w with
  | mk _ _ f => exact f t m
theorem okHd_few {h : Hd} {n : Nat} (a : okHd h n) : n ≤ 12 := by
  cases h <;> simp only [okHd] at a <;> omega
theorem Wt.few {h : Hd} {ks : List T} (w : Wt (.node h ks)) : ks.length ≤ 12 := okHd_few w.hd
theorem sizes_le {ks : List T} {n : Nat} (h : ∀ t ∈ ks, t.size ≤ n) : T.sizes ks ≤ ks.length * n := by
  induction ks with
  | nil => simp [T.sizes]
  | cons t r ih =>
    have h1 := h t List.mem_cons_self
    have h2 := ih fun u hu => h u (List.mem_cons_of_mem _ hu)
    simp only [T.sizes, List.length_cons, Nat.succ_mul]
    omega
theorem deeps_le {ks : List T} {n : Nat} (h : ∀ t ∈ ks, t.deep ≤ n) : T.deeps ks ≤ n := by
  induction ks with
  | nil => simp [T.deeps]
  | cons t r ih =>
    have h1 := h t List.mem_cons_self
    have h2 := ih fun u hu => h u (List.mem_cons_of_mem _ hu)
    simp only [T.deeps]
    omega
/-- how many nodes a drawn term may have -/
def szOf : Nat → Nat
  | 0 => 1
  | d + 1 => 3 * szOf d + 3
theorem szOf_pos : ∀ d, 1 ≤ szOf d
  | 0 => Nat.le_refl _
  | d + 1 => by have := szOf_pos d; simp only [szOf]; omega
/-- the names that mean something in term number i of a node, given those around -/
def ext : Hd → Nat → List Str → List Str
  | .fn m, _, ns => m :: ns
  | .rc m, _, ns => m :: ns
  | .lt m, i, ns => if i = 1 then m :: ns else ns
  | _, _, ns => ns
/-- every name that is used is among those around -/
inductive Sc : List Str → T → Prop
  | mk {ns : List Str} {h : Hd} {ks : List T} : (∀ n, h = .var n → n ∈ ns) → (∀ (i : Nat) (k : T), ks[i]? = some k → Sc (ext h i ns) k) → Sc ns (.node h ks)
theorem ext_mono {h : Hd} {i : Nat} {ns ms : List Str} (s : ∀ n ∈ ns, n ∈ ms) : ∀ n ∈ ext h i ns, n ∈ ext h i ms := by
  have c : ∀ m : Str, ∀ n ∈ m :: ns, n ∈ m :: ms := fun m n hn => by
    rcases List.mem_cons.mp hn with rfl | hn
    · exact List.mem_cons_self
    · exact List.mem_cons_of_mem _ (s n hn)
  cases h <;> first | exact s | exact c _ | (intro n hn; simp only [ext] at hn ⊢; split at hn; exact (by rw [if_pos (by assumption)]; exact c _ n hn); exact (by rw [if_neg (by assumption)]; exact s n hn))
theorem Sc.mono {ns ms : List Str} {t : T} (h : Sc ns t) : (∀ n ∈ ns, n ∈ ms) → Sc ms t := by
  induction h generalizing ms with
  | mk a b ih => exact fun s => .mk (fun n e => s n (a n e)) fun i k e => ih i k e (ext_mono s)
theorem sc0 {ns : List Str} {h : Hd} (hv : ∀ n, h ≠ .var n) : Sc ns (.node h []) := .mk (fun n e => absurd e (hv n)) (fun i k e => by simp at e)
theorem sc1 {ns : List Str} {h : Hd} {k : T} (hv : ∀ n, h ≠ .var n) (a : Sc (ext h 0 ns) k) : Sc ns (.node h [k]) := .mk (fun n e => absurd e (hv n)) (fun i r e => by
  match i, e with
  | 0, e => cases e; exact a
  | i + 1, e => simp at e)
theorem sc2 {ns : List Str} {h : Hd} {k l : T} (hv : ∀ n, h ≠ .var n) (a : Sc (ext h 0 ns) k) (b : Sc (ext h 1 ns) l) : Sc ns (.node h [k, l]) := .mk (fun n e => absurd e (hv n)) (fun i r e => by
  match i, e with
  | 0, e => cases e; exact a
  | 1, e => cases e; exact b
  | i + 2, e => simp at e)
theorem sc3 {ns : List Str} {h : Hd} {k l m : T} (hv : ∀ n, h ≠ .var n) (a : Sc (ext h 0 ns) k) (b : Sc (ext h 1 ns) l) (c : Sc (ext h 2 ns) m) : Sc ns (.node h [k, l, m]) := .mk (fun n e => absurd e (hv n)) (fun i r e => by
  match i, e with
  | 0, e => cases e; exact a
  | 1, e => cases e; exact b
  | 2, e => cases e; exact c
  | i + 3, e => simp at e)
theorem scL {ns : List Str} {h : Hd} {ks : List T} (hv : ∀ n, h ≠ .var n) (he : ∀ i, ext h i ns = ns) (a : ∀ t ∈ ks, Sc ns t) : Sc ns (.node h ks) := .mk (fun n e => absurd e (hv n)) (fun i r e => by rw [he i]; exact a r (List.mem_of_getElem? e))
/-- a term drawn with d levels, where some names mean something -/
def Drawn (d : Nat) (ns : List Str) (t : T) : Prop := Wf t ∧ t.size ≤ szOf d ∧ t.deep ≤ 2 * d + 1 ∧ Sc ns t

/-! ### a list that is being made: all else is told of the heap without it -/
def off (D : Addr) (H : Hp) : Hp := fun b => if b = D then none else H b
theorem off_at {D : Addr} {H : Hp} : off D H D = none := if_pos rfl
theorem off_ne {D b : Addr} {H : Hp} (h : b ≠ D) : off D H b = H b := if_neg h
theorem off_same {D : Addr} {H : Hp} : Same (off D H) H := fun b o h => by
  by_cases e : b = D
  · rw [e, off_at] at h
    cases h
  · rw [off_ne e] at h
    exact h
theorem _root_.L2.Same.wr {G H : Hp} {D : Addr} {o : HO} (h : Same G H) (hD : G D = none) : Same G (L2.upd H D o) := fun b u e => by
  rw [upd_ne (ne_of_none e hD)]
  exact h b u e
theorem _root_.L2.Same.ad {G H : Hp} {p : Addr} {o : HO} (h : Same G H) : Same (L2.upd G p o) (L2.upd H p o) := fun b u e => by
  by_cases q : b = p
  · rw [q, upd_same] at e ⊢
    exact e
  · rw [upd_ne q] at e ⊢
    exact h b u e
theorem _root_.L2.Same.fr {G H : Hp} {p : Addr} (h : Same G H) (hp : H p = none) : G p = none := h.free hp
theorem _root_.L2.Same.off {G H : Hp} {D : Addr} (h : Same G H) (hD : G D = none) : Same G (Vt.off D H) := fun b o e => by
  rw [off_ne (ne_of_none e hD)]
  exact h b o e
theorem Keep.off {s D : Addr} {G H H' : Hp} (h : Same G H) (k : Keep s H H') (hD : G D = none) : Keep s G (Vt.off D H') := fun b o n e => by
  rw [off_ne (ne_of_none e hD)]
  exact k b o n (h b o e)
theorem Src.off {s D : Addr} {H : Hp} (h : Src H s) (hn : s ≠ D) : Src (Vt.off D H) s := by
  obtain ⟨x, y, z, e⟩ := h
  exact ⟨x, y, z, by rw [off_ne hn]; exact e⟩
theorem Src.up {s : Addr} {G H : Hp} (h : Src G s) (e : Same G H) : Src H s := h.same e
theorem upd_none {H : Hp} {p D : Addr} {o : HO} (h : H D = none) (n : D ≠ p) : L2.upd H p o D = none := by rw [upd_ne n]; exact h
/-- one node without terms within it -/
theorem drawn0 {h : Hd} {ns : List Str} (a : okHd h 0) (b : okRec h []) (c : Sc ns (.node h [])) : Drawn 0 ns (.node h []) := ⟨.mk a b (by decide) (fun t m => by cases m), by simp [T.size, T.sizes, szOf], by simp [T.deep, T.deeps], c⟩

/-! ### what is new behind a call -/
def nw (H H' : Hp) : Hp := fun b => if (H b).isSome then none else H' b
theorem nw_of {H H' : Hp} {b : Addr} (h : H b = none) : nw H H' b = H' b := by unfold nw; rw [h]; rfl
theorem nw_get {H H' : Hp} {b : Addr} {o : HO} (h : nw H H' b = some o) : H b = none ∧ H' b = some o := by
  unfold nw at h
  cases e : H b with
  | none => rw [e] at h; exact ⟨rfl, h⟩
  | some u => rw [e] at h; cases h
theorem nw_sub {H H' : Hp} : Same (nw H H') H' := fun b o h => (nw_get h).2
theorem nw_same {H A B : Hp} (h : Same A B) : Same (nw H A) (nw H B) := fun b o e => by
  obtain ⟨e1, e2⟩ := nw_get e
  rw [nw_of e1]
  exact h b o e2
theorem Src.some {H : Hp} {s b : Addr} (h : Src H s) (e : H b = none) : b ≠ s := h.ne e
theorem nw_keep {s : Addr} {H A B : Hp} (k : Keep s A B) (hs : Src H s) : Same (nw H A) (nw H B) := fun b o e => by
  obtain ⟨e1, e2⟩ := nw_get e
  rw [nw_of e1]
  exact k b o (hs.ne e1) e2
theorem Keep.none {s b : Addr} {H H1 : Hp} (k : Keep s H H1) (hs : Src H1 s) (h : H1 b = none) : H b = none := by
  cases e : H b with
  | none => rfl
  | some o =>
    have := k b o (hs.ne h) e
    rw [h] at this
    cases this
/-- new behind a later call is new behind all -/
theorem nw_in {s : Addr} {H H1 A : Hp} (k : Keep s H H1) (hs : Src H1 s) : Same (nw H1 A) (nw H A) := fun b o e => by
  obtain ⟨e1, e2⟩ := nw_get e
  rw [nw_of (k.none hs e1)]
  exact e2
theorem nw_off {X A : Hp} {D : Addr} {o : HO} (h : X D = some o) : Same (nw X A) (Vt.off D A) := fun b u e => by
  obtain ⟨e1, e2⟩ := nw_get e
  rw [off_ne (fun q => by rw [q, h] at e1; cases e1)]
  exact e2
theorem nw_at {H A : Hp} {p : Addr} {o : HO} (h : H p = none) : nw H (L2.upd A p o) p = some o := by rw [nw_of h, upd_same]
theorem Keep.list {s a : Addr} {H H' : Hp} {xs : List V} (k : Keep s H H') (hs : Src H s) (hx : No3 xs) (h : H a = some (.lst xs)) : H' a = some (.lst xs) := by
  obtain ⟨x, y, z, e⟩ := hs
  refine k _ _ (fun q => ?_) h
  rw [q, e] at h
  injection h with h
  injection h with h
  exact hx x y z h.symm
theorem tup_off {K : PySem.W.Frag} {X : Hp} {a D : Addr} {xs zs : List V} (h : SqT K X a xs) (hD : X D = some (.lst zs)) : SqT K (Vt.off D X) a xs := by
  rcases h with (h | ⟨o, h⟩) | h
  · exact .inl (.inl (by rw [off_ne (fun z => by rw [z, hD] at h; injection h with h; cases h)]; exact h))
  · exact .inl (.inr ⟨o, by rw [off_ne (fun z => by rw [z, hD] at h; injection h with h; cases h)]; exact h⟩)
  · exact .inr h
theorem catA_of {K : PySem.W.Frag} {H : Hp} {a b : Addr} {xs ys : List V} {Q : VK} (h1 : SqT K H a xs) (h2 : SqT K H b ys) (hz : xs.length + ys.length ≤ sizeLine) (h : ∀ (p : Addr) (H' : Hp), Same H H' → SqT K H' p (xs ++ ys) → Q (.ref p) H') : rCatA K (.ref a) (.ref b) H Q := by
  refine ⟨a, b, xs, ys, rfl, rfl, h1, h2, hz, fun e => ?_, fun _ e => ?_, fun _ _ p hp => ?_⟩
  · refine h b H (Same.refl _) ?_
    rw [e]
    exact h2
  · refine h a H (Same.refl _) ?_
    rw [e, List.append_nil]
    exact h1
  · exact h p _ (same_new hp _) (SqT.of upd_same)
end Vt


set_option Elab.async false
set_option linter.all false
set_option maxRecDepth 100000
set_option maxHeartbeats 4000000
/-! steps of a reading: names, constants, ints; then the facts of the context -/
local macro_rules | `(tactic| walk_at "ne") => `(tactic| first | assumption | exact Ne.symm (by assumption) | exact L2.ne_of_none (by assumption) (by assumption) | exact L2.ne_of_none L2.upd_same (by assumption) | exact Ne.symm (L2.ne_of_none L2.upd_same (by assumption)) | exact Ne.symm (L2.ne_of_none (by assumption) (by assumption)))
local macro_rules | `(tactic| walk_at "hp") => `(tactic| first | assumption | exact L2.upd_same | exact (L2.upd_ne (by walk_at "ne")).trans (by assumption) | exact (L2.upd_ne (by walk_at "ne")).trans L2.upd_same | exact (L2.upd_ne (by walk_at "ne")).trans ((L2.upd_ne (by walk_at "ne")).trans (by assumption)) | exact (L2.upd_ne (by walk_at "ne")).trans ((L2.upd_ne (by walk_at "ne")).trans L2.upd_same))
local macro_rules | `(tactic| walk_at "cn") => `(tactic| first | assumption | omega | rfl | (constructor <;> omega) | (refine .inl ?_; constructor <;> omega) | (refine .inr ?_; constructor <;> omega) | decide | (refine Vt.sz ?_; simp; done) | (refine Vt.sz ?_; simp; omega))
local macro_rules | `(tactic| walk_at "rd") => `(tactic| (repeat (first
  | refine ⟨_, rfl, ?_⟩
  | refine ⟨_, _, rfl, rfl, ?_⟩
  | refine .inl ⟨_, rfl, ?_⟩
  | (refine ⟨_, _, _, _, rfl, rfl, .inl (.inl (by walk_at "hp")), rfl, ?_⟩)
  | (refine ⟨_, _, _, _, rfl, rfl, (by walk_at "hp"), rfl, ?_⟩)
  | (refine And.intro (by walk_at "cn") ?_))))

namespace Vt
open PySem PySem.Spec PyProof.Rows L2
/-- a draw: an int from 0 to many - 1 -/
def spNext : Sp := fun vs H Q _ => ∃ (s : Addr) (m : Int), vs = [.ref s, .int m] ∧ Src H s ∧ 0 < m ∧ m < 1000000 ∧
  ∀ (i : Int) (H' : Hp), 0 ≤ i → i < m → Keep s H H' → Src H' s → Q (.int i) H'
/-- one of the items -/
def spOne (K : PySem.W.Frag) : Sp := fun vs H Q _ => ∃ (s l : Addr) (xs : List V), vs = [.ref s, .ref l] ∧ Src H s ∧ SqL K H l xs ∧ (No3 xs ∨ l ≠ s) ∧ xs ≠ [] ∧ xs.length < 1000 ∧
  ∀ (v : V) (H' : Hp), v ∈ xs → Keep s H H' → Src H' s → Q v H'
/-- a new source -/
def spSource : Sp := fun vs H Q _ => ∃ c : Int, vs = [.int c] ∧ ∀ (p : Addr) (H' : Hp), Same H H' → Src H' p → H p = none → Q (.ref p) H'
/-- an int of the script, or 0 -/
def spCell (K : PySem.W.Frag) : Sp := fun vs H Q _ => ∃ (a : Addr) (ns : List Int), vs = [.ref a, .int 0] ∧ SqL K H a (ns.map V.int) ∧ ns.length ≤ 900 ∧ ∀ (i : Int) (H' : Hp), Same H H' → Q (.int i) H'
theorem Keep.seqN {K : PySem.W.Frag} {s a : Addr} {H H' : Hp} {xs : List V} (k : Keep s H H') (hs : Src H s) (hx : No3 xs ∨ a ≠ s) (h : SqL K H a xs) : SqL K H' a xs := by
  rcases hx with hx | hx
  · exact k.seq hs hx h
  · rcases h with (h | ⟨o, h⟩) | h
    · exact .inl (.inl (k _ _ hx h))
    · exact .inl (.inr ⟨o, k _ _ hx h⟩)
    · exact .inr h
theorem cut1 (ns : List Int) : ∃ i : Int, atI (cutV (ns.map V.int) (some 0) (some (0 + 1)) ++ [V.int 0]) 0 = some (.int i) := by
  have e0 : cutV (ns.map V.int) (some 0) (some (0 + 1)) = (ns.take 1).map V.int := by
    have h1 : HT.sIx (ns.map V.int).length 0 (some 0) = 0 := by
      show min 0 _ = 0
      omega
    unfold cutV
    rw [h1, List.drop_zero]
    cases ns with
    | nil => rfl
    | cons n r =>
      have h2 : HT.sIx ((n :: r).map V.int).length ((n :: r).map V.int).length (some (0 + 1)) = 1 := by
        show min 1 _ = 1
        rw [List.length_map, List.length_cons]
        omega
      rw [h2]
      rfl
  rw [e0]
  cases ns with
  | nil => exact ⟨0, rfl⟩
  | cons n r => exact ⟨n, atI_nat (j := 0) rfl⟩
abbrev s_law_next : Stmt := topS 48
abbrev N_law_next : List Str := ["source", "many", "found", "prime", "number"]
theorem sc_law_next : FnScope N_law_next ["source", "many"] (defScope s_law_next) := ⟨rfl, rfl, rfl, by decide +kernel, rfl, by decide +kernel, by decide +kernel⟩
abbrev s_law_one : Stmt := topS 49
abbrev N_law_one : List Str := ["source", "some"]
theorem sc_law_one : FnScope N_law_one ["source", "some"] (defScope s_law_one) := ⟨rfl, rfl, rfl, by decide +kernel, rfl, by decide +kernel, by decide +kernel⟩
abbrev s_law_source_of : Stmt := topS 47
abbrev N_law_source_of : List Str := ["cell"]
theorem sc_law_source_of : FnScope N_law_source_of ["cell"] (defScope s_law_source_of) := ⟨rfl, rfl, rfl, by decide +kernel, rfl, by decide +kernel, by decide +kernel⟩
section
variable {P : Program} {w : World} {K : PySem.W.Frag} {mg : Str → Option Value} {base : Heap}
theorem ok_next (S : Stands K mg "_law_next" s_law_next ["source", "many"]) (Z : Blt mg) : DefOk P w K mg base CX0 1 "_law_next" ["source", "many"] spNext := by
  have z_int := Z.int
  obtain ⟨f, fd, F, hm, hb⟩ := S
  refine ⟨f, fd, ?_, hm, F.kp, hb⟩
  have nd := sc_law_next.nd
  refine F.ok sc_law_next (fun vs H Q E h => ?_) (fun cdv A outer s0 H vs Q E hr h => ?_)
  · obtain ⟨s, m, rfl, _⟩ := h
    rfl
  obtain ⟨s, m, rfl, ⟨x, y, z, hs⟩, h0, h1, q⟩ := h
  refine ⟨_, (pss_cons (ps_if (pt_cmpR op_gt (pe_ix ix_list (pv 0) pe_int (fun _ _ => rfl)) pe_int (nomark _)) (pss_cons (ps_set (i := 2) nd rfl (Or.inl rfl) (pe_op op_mod (pe_callTy call_int1 (by rfl) z_int (by decide +kernel) (pa_cons (pe_ix ix_list (pv 0) pe_int (fun _ _ => rfl)) pa_nil)) (pv 1)))
      (pss_cons (ps_asg (pe_op op_fdivN (pe_ix ix_list (pv 0) pe_int (fun _ _ => rfl)) (pv 1)) (pg_sub (pv 0) pe_int set_list))
      (pss_one (ps_ret (pv 2))))) pss_nil)
      (pss_cons (ps_asg (pe_op op_add (pe_ix ix_list (pv 0) pe_int (fun _ _ => rfl)) pe_int) (pg_sub (pv 0) pe_int set_list))
      (pss_cons (ps_set (i := 3) nd rfl (Or.inl rfl) pe_int)
      (pss_cons (ps_set (i := 4) nd rfl (Or.inl rfl) (pe_op op_mod (pe_callTy call_int1 (by rfl) z_int (by decide +kernel) (pa_cons (pe_op op_add (pe_op op_add (pe_ix ix_list (pv 0) pe_int (fun _ _ => rfl)) (pe_op op_mul pe_int (pe_ix ix_list (pv 0) pe_int (fun _ _ => rfl)))) pe_int) pa_nil)) (pv 3)))
      (pss_cons (ps_set (i := 4) nd rfl (Or.inl rfl) (pe_op op_mod (pe_callTy call_int1 (by rfl) z_int (by decide +kernel) (pa_cons (pe_op op_mul (pv 4) pe_int) pa_nil)) (pv 3)))
      (pss_cons (ps_set (i := 4) nd rfl (Or.inl rfl) (pe_op op_mod (pe_callTy call_int1 (by rfl) z_int (by decide +kernel) (pa_cons (pe_op op_mul (pv 4) (pe_op op_add (pe_op op_fdiv (pv 4) pe_int) pe_int)) pa_nil)) (pv 3)))
      (pss_cons (ps_set (i := 4) nd rfl (Or.inl rfl) (pe_op op_mod (pe_callTy call_int1 (by rfl) z_int (by decide +kernel) (pa_cons (pe_op op_mul (pv 4) (pe_op op_add (pe_op op_fdiv (pv 4) pe_int) pe_int)) pa_nil)) pe_int))
      (pss_one (ps_ret (pe_op op_mod (pe_callTy call_int1 (by rfl) z_int (by decide +kernel) (pa_cons (pe_op op_fdiv (pv 4) pe_int) pa_nil)) (pv 1))))))))))), ?_⟩
  walk_at "rd"
  refine ite2 (fun c => ?_) (fun c => ?_)
  · walk_at "rd"
    exact q _ _ (Int.emod_nonneg _ (by omega)) (Int.emod_lt_of_pos _ h0) Keep.wr ⟨_, _, _, upd_same⟩
  · walk_at "rd"
    exact q _ _ (Int.emod_nonneg _ (by omega)) (Int.emod_lt_of_pos _ h0) Keep.wr ⟨_, _, _, upd_same⟩
theorem ok_one (S : Stands K mg "_law_one" s_law_one ["source", "some"]) (Z : Blt mg) (H_law_next : DefOk P w K mg base CX0 1 "_law_next" ["source", "many"] spNext) : DefOk P w K mg base CX0 2 "_law_one" ["source", "some"] (spOne K) := by
  have z_len := Z.len
  obtain ⟨f, fd, F, hm, hb⟩ := S
  obtain ⟨f_law_next, fd_law_next, G_law_next, m_law_next, k_law_next, b_law_next⟩ := H_law_next
  refine ⟨f, fd, ?_, hm, F.kp, hb⟩
  have nd := sc_law_one.nd
  refine F.ok sc_law_one (fun vs H Q E h => ?_) (fun cdv A outer s0 H vs Q E hr h => ?_)
  · obtain ⟨s, l, xs, rfl, _⟩ := h
    rfl
  obtain ⟨s, l, xs, rfl, hs, hl, h3, hne, hlen, q⟩ := h
  refine ⟨_, (pss_one (ps_ret (pe_ix ix_list (pv 1) (pe_call G_law_next (hr.mono (by decide)) rfl m_law_next k_law_next b_law_next .nil pass0 (pa_cons (pv 0) (pa_cons (pe_callB call_len_seq (by rfl) z_len (by decide +kernel) (pa_cons (pv 1) pa_nil)) pa_nil))) (fun _ _ => rfl)))), ?_⟩
  have hpos : 0 < xs.length := List.length_pos_iff.mpr hne
  refine ⟨_, rfl, _, rfl, _, rfl, l, xs, rfl, .inl hl, s, _, rfl, hs, by omega, by omega, fun i H' h0 h1 kp hs' => ?_⟩
  obtain ⟨j, rfl⟩ := Int.eq_ofNat_of_zero_le h0
  have hj : j < xs.length := by omega
  exact ⟨l, xs, _, _, rfl, rfl, kp.seqN hs h3 hl, atI_nat (List.getElem?_eq_getElem hj), q _ _ (List.getElem_mem hj) kp hs'⟩
theorem ok_source (S : Stands K mg "_law_source_of" s_law_source_of ["cell"]) (Z : Blt mg) : DefOk P w K mg base CX0 1 "_law_source_of" ["cell"] spSource := by
  have z_int := Z.int
  obtain ⟨f, fd, F, hm, hb⟩ := S
  refine ⟨f, fd, ?_, hm, F.kp, hb⟩
  have nd := sc_law_source_of.nd
  refine F.ok sc_law_source_of (fun vs H Q E h => ?_) (fun cdv A outer s0 H vs Q E hr h => ?_)
  · obtain ⟨c, rfl, _⟩ := h
    rfl
  obtain ⟨c, rfl, q⟩ := h
  refine ⟨_, (pss_cons (ps_set (i := 0) nd rfl (Or.inl rfl) (pe_ifExp (pt_cmpR op_ge (pv 0) pe_int (nomark _)) (pv 0) (pe_op op_sub (pe_op op_sub pe_int (pe_op op_mul pe_int (pv 0))) pe_int)))
      (pss_one (ps_ret (pe_lst (pa_cons (pe_op op_mul (pv 0) (pe_callTy call_int1 (by rfl) z_int (by decide +kernel) (pa_cons (pe_cmpR op_ge (pv 0) (pe_op op_pow pe_int pe_int) (nomark _)) pa_nil))) (pa_cons (pe_op op_mod (pe_callTy call_int1 (by rfl) z_int (by decide +kernel) (pa_cons (pv 0) pa_nil)) pe_int) (pa_cons pe_int pa_nil))))))), ?_⟩
  walk_at "rd"
  refine ite2 (fun c => ?_) (fun c => ?_)
  all_goals
    walk_at "rd"
    refine .inr ⟨_, rfl, _, _, rfl, rfl, .inr (by split <;> decide), ?_⟩
    walk_at "rd"
    intro p hp
    exact q p _ (same_new hp _) ⟨_, _, _, upd_same⟩ hp
end
end Vt


set_option Elab.async false
set_option linter.all false
set_option maxRecDepth 100000
set_option maxHeartbeats 4000000
namespace Vt
open PySem PySem.Spec L2 TL
/-! ### trees and their texts -/
inductive Hy where
  | var (n : Nat) | int | bool | fn | tup | rcd (ls : List Str) (tail : Option Nat)
inductive Ty where
  | node (h : Hy) (ks : List Ty)
def low (c : Nat) : Prop := 97 ≤ c ∧ c ≤ 122
def isLab (l : Str) : Prop := tl l ≠ [] ∧ ∀ c ∈ tl l, low c
def okHy : Hy → Nat → Prop
  | .var _, k => k = 0
  | .int, k => k = 0
  | .bool, k => k = 0
  | .fn, k => k = 2
  | .tup, k => 2 ≤ k ∧ k ≤ 6
  | .rcd ls _, k => k = ls.length ∧ ∀ l ∈ ls, isLab l
inductive Wy : Ty → Prop
  | mk {h : Hy} {ks : List Ty} : okHy h ks.length → (∀ t ∈ ks, Wy t) → Wy (.node h ks)
theorem Wy.hd {h : Hy} {ks : List Ty} : Wy (.node h ks) → okHy h ks.length
  | .mk a _ => a
theorem Wy.kid {h : Hy} {ks : List Ty} {t : Ty} (m : t ∈ ks) : Wy (.node h ks) → Wy t
  | .mk _ b => b t m
mutual
def Ty.size : Ty → Nat
  | .node _ ks => 1 + Ty.sizes ks
def Ty.sizes : List Ty → Nat
  | [] => 0
  | t :: r => t.size + Ty.sizes r
end
theorem Ty.pos (t : Ty) : 1 ≤ t.size := by
  cases t
  simp only [Ty.size]
  omega
def Hy.rank : Hy → Nat
  | .fn => 0
  | .tup => 1
  | _ => 2
def Ty.rank : Ty → Nat
  | .node h _ => h.rank
/-- the letters of a mark -/
def mkn (n : Nat) : List Nat := if h : n = 0 then [] else mkn ((n - 1) / 26) ++ [97 + (n - 1) % 26]
termination_by n
decreasing_by omega
theorem mkn_zero : mkn 0 = [] := by unfold mkn; rfl
theorem mkn_pos {n : Nat} (h : n ≠ 0) : mkn n = mkn ((n - 1) / 26) ++ [97 + (n - 1) % 26] := by
  rw [mkn, dif_neg h]
theorem mkn_inj : ∀ k a b : Nat, a ≤ k → mkn a = mkn b → a = b := by
  intro k
  induction k with
  | zero =>
    intro a b h e
    obtain rfl : a = 0 := by omega
    by_cases hb : b = 0
    · exact hb.symm
    · rw [mkn_zero, mkn_pos hb] at e
      exact absurd e.symm (by simp)
  | succ k ih =>
    intro a b h e
    by_cases ha : a = 0
    · subst ha
      by_cases hb : b = 0
      · exact hb.symm
      · rw [mkn_zero, mkn_pos hb] at e
        exact absurd e.symm (by simp)
    · by_cases hb : b = 0
      · rw [hb, mkn_zero, mkn_pos ha] at e
        exact absurd e (by simp)
      · rw [mkn_pos ha, mkn_pos hb] at e
        have e1 := List.append_inj_left' e rfl
        have e2 := List.append_inj_right' e rfl
        have := ih _ _ (by omega) e1
        simp only [List.cons.injEq, and_true] at e2
        omega
theorem mkn_low : ∀ k n : Nat, n ≤ k → ∀ c ∈ mkn n, low c := by
  intro k
  induction k with
  | zero =>
    intro n h c m
    obtain rfl : n = 0 := by omega
    rw [mkn_zero] at m
    cases m
  | succ k ih =>
    intro n h c m
    by_cases hn : n = 0
    · rw [hn, mkn_zero] at m
      cases m
    · rw [mkn_pos hn] at m
      rcases List.mem_append.mp m with m | m
      · exact ih _ (by omega) c m
      · rw [List.mem_singleton.mp m]
        unfold low
        omega
abbrev Pt := Nat × List Nat
def at_ (L : Nat) (a : Pt) : List Nat := if a.1 < L then 40 :: (a.2 ++ [41]) else a.2
def sepT : List Pt → List Nat
  | [] => []
  | [a] => at_ 2 a
  | a :: b :: r => at_ 2 a ++ ([32, 42, 32] ++ sepT (b :: r))
def flds : List Str → List Pt → List Nat
  | [l], [a] => tl l ++ ([58, 32] ++ a.2)
  | l :: m :: ls, a :: r => tl l ++ ([58, 32] ++ (a.2 ++ ([44, 32] ++ flds (m :: ls) r)))
  | _, _ => []
def tailT : List Str → Option Nat → List Nat
  | _, none => [125]
  | [], some m => [124, 32, 39] ++ (mkn (m + 1) ++ [125])
  | _ :: _, some m => [32, 124, 32, 39] ++ (mkn (m + 1) ++ [125])
def comb : Hy → List Pt → List Nat
  | .var n, _ => 39 :: mkn (n + 1)
  | .int, _ => [105, 110, 116]
  | .bool, _ => [98, 111, 111, 108]
  | .fn, [a, b] => at_ 1 a ++ ([32, 45, 62, 32] ++ b.2)
  | .fn, _ => []
  | .tup, l => sepT l
  | .rcd ls t, l => 123 :: (flds ls l ++ tailT ls t)
mutual
def Ty.wr : Ty → List Nat
  | .node h ks => comb h (Ty.wrs ks)
def Ty.wrs : List Ty → List Pt
  | [] => []
  | t :: r => (t.rank, t.wr) :: Ty.wrs r
end
def atT (L : Nat) (t : Ty) : List Nat := at_ L (t.rank, t.wr)
/-! ### a text is that of one tree alone -/
def stop : Nat → List Nat → Prop
  | _, [] => True
  | L, c :: r => c = 41 ∨ c = 44 ∨ c = 125 ∨ (c = 32 ∧ ∃ d s, r = d :: s ∧ (d = 124 ∨ (1 ≤ L ∧ d = 45) ∨ (2 ≤ L ∧ d = 42)))
theorem stop_le {L M : Nat} (h : L ≤ M) {r : List Nat} (s : stop L r) : stop M r := by
  cases r with
  | nil => trivial
  | cons c r =>
    rcases s with s | s | s | ⟨s, d, t, e, k⟩
    · exact .inl s
    · exact .inr (.inl s)
    · exact .inr (.inr (.inl s))
    · refine .inr (.inr (.inr ⟨s, d, t, e, ?_⟩))
      omega
def nlow : List Nat → Prop
  | [] => True
  | c :: _ => ¬ low c
theorem stop_nlow {L : Nat} {r : List Nat} (s : stop L r) : nlow r := by
  cases r with
  | nil => trivial
  | cons c r =>
    unfold nlow low
    rcases s with s | s | s | ⟨s, _⟩ <;> omega
theorem run_inj : ∀ {x y r s : List Nat}, (∀ c ∈ x, low c) → (∀ c ∈ y, low c) → nlow r → nlow s → x ++ r = y ++ s → x = y ∧ r = s
  | [], [], r, s, _, _, _, _, e => ⟨rfl, e⟩
  | [], c :: y, r, s, _, hy, hr, _, e => by
    rw [List.nil_append, List.cons_append] at e
    rw [e] at hr
    exact absurd (hy c (List.mem_cons_self ..)) hr
  | c :: x, [], r, s, hx, _, _, hs, e => by
    rw [List.nil_append, List.cons_append] at e
    rw [← e] at hs
    exact absurd (hx c (List.mem_cons_self ..)) hs
  | c :: x, d :: y, r, s, hx, hy, hr, hs, e => by
    simp only [List.cons_append, List.cons.injEq] at e
    obtain ⟨rfl, e⟩ := e
    obtain ⟨rfl, e2⟩ := run_inj (fun z m => hx z (List.mem_cons_of_mem _ m)) (fun z m => hy z (List.mem_cons_of_mem _ m)) hr hs e
    exact ⟨rfl, e2⟩
end Vt


set_option Elab.async false
set_option linter.all false
set_option maxRecDepth 100000
set_option maxHeartbeats 4000000
namespace Vt
open PySem PySem.Spec L2 TL
def Uq (t t' : Ty) : Prop := ∀ L r r', L ≤ 2 → stop L r → stop L r' → atT L t ++ r = atT L t' ++ r' → t = t' ∧ r = r'
theorem Uq.symm {t t' : Ty} (h : Uq t t') : Uq t' t := fun L r r' a b c e => by
  obtain ⟨x, y⟩ := h L r' r a c b e.symm
  exact ⟨x.symm, y.symm⟩
theorem no_star {x : List Nat} : ¬ stop 1 (32 :: 42 :: x) := fun h => by
  rcases h with h | h | h | ⟨_, d, s, e, h⟩
  · omega
  · omega
  · omega
  · injection e with e1 e2
    omega
theorem no_arrow {x : List Nat} : ¬ stop 0 (32 :: 45 :: x) := fun h => by
  rcases h with h | h | h | ⟨_, d, s, e, h⟩
  · omega
  · omega
  · omega
  · injection e with e1 e2
    omega
theorem at_star (x : List Nat) : stop 2 (32 :: 42 :: x) := .inr (.inr (.inr ⟨rfl, 42, x, rfl, .inr (.inr ⟨Nat.le_refl _, rfl⟩)⟩))
theorem at_arrow (x : List Nat) : stop 1 (32 :: 45 :: x) := .inr (.inr (.inr ⟨rfl, 45, x, rfl, .inr (.inl ⟨Nat.le_refl _, rfl⟩)⟩))
theorem at_bar (x : List Nat) : stop 0 (32 :: 124 :: x) := .inr (.inr (.inr ⟨rfl, 124, x, rfl, .inl rfl⟩))
section
variable {n : Nat} (IH : ∀ t t' : Ty, t.size + t'.size < n → Wy t → Wy t' → Uq t t')
include IH
theorem tup_uniq : ∀ ks ks' : List Ty, Ty.sizes ks + Ty.sizes ks' < n → (∀ t ∈ ks, Wy t) → (∀ t ∈ ks', Wy t) → ks ≠ [] → ks' ≠ [] → ∀ r r', stop 1 r → stop 1 r' → sepT (Ty.wrs ks) ++ r = sepT (Ty.wrs ks') ++ r' → ks = ks' ∧ r = r'
  | [], _, _, _, _, h, _, _, _, _, _, _ => absurd rfl h
  | _ :: _, [], _, _, _, _, h, _, _, _, _, _ => absurd rfl h
  | [a], [b], hz, h1, h2, _, _, r, r', s, s', e => by
    simp only [Ty.sizes] at hz
    obtain ⟨x, y⟩ := IH a b (by omega) (h1 a (by simp)) (h2 b (by simp)) 2 r r' (Nat.le_refl _) (stop_le (by decide) s) (stop_le (by decide) s') e
    exact ⟨by rw [x], y⟩
  | [a], b :: c :: k, hz, h1, h2, _, _, r, r', s, s', e => by
    simp only [Ty.sizes] at hz
    have e' : atT 2 a ++ r = atT 2 b ++ (32 :: 42 :: ([32] ++ sepT (Ty.wrs (c :: k)) ++ r')) := by
      refine Eq.trans e ?_
      show (at_ 2 _ ++ ([32, 42, 32] ++ _)) ++ r' = _
      simp only [List.append_assoc, List.cons_append, List.nil_append]
      rfl
    obtain ⟨x, y⟩ := IH a b (by omega) (h1 a (by simp)) (h2 b (by simp)) 2 _ _ (Nat.le_refl _) (stop_le (by decide) s) (at_star _) e'
    rw [y] at s
    exact absurd s no_star
  | b :: c :: k, [a], hz, h1, h2, _, _, r, r', s, s', e => by
    simp only [Ty.sizes] at hz
    have e' : atT 2 b ++ (32 :: 42 :: ([32] ++ sepT (Ty.wrs (c :: k)) ++ r)) = atT 2 a ++ r' := by
      refine Eq.trans ?_ e
      show _ = (at_ 2 _ ++ ([32, 42, 32] ++ _)) ++ r
      simp only [List.append_assoc, List.cons_append, List.nil_append]
      rfl
    obtain ⟨x, y⟩ := IH b a (by omega) (h1 b (by simp)) (h2 a (by simp)) 2 _ _ (Nat.le_refl _) (at_star _) (stop_le (by decide) s') e'
    rw [← y] at s'
    exact absurd s' no_star
  | a :: b :: k, c :: d :: m, hz, h1, h2, _, _, r, r', s, s', e => by
    simp only [Ty.sizes] at hz
    have e' : atT 2 a ++ (32 :: 42 :: 32 :: (sepT (Ty.wrs (b :: k)) ++ r)) = atT 2 c ++ (32 :: 42 :: 32 :: (sepT (Ty.wrs (d :: m)) ++ r')) := by
      have z : ∀ (x y z : Ty) (l : List Ty) (r : List Nat), sepT (Ty.wrs (x :: y :: l)) ++ r = atT 2 x ++ (32 :: 42 :: 32 :: (sepT (Ty.wrs (y :: l)) ++ r)) := fun x y z l r => by
        show (at_ 2 _ ++ ([32, 42, 32] ++ _)) ++ r = _
        simp only [List.append_assoc, List.cons_append, List.nil_append]
        rfl
      rw [← z a b a k r, ← z c d c m r', e]
    obtain ⟨x, y⟩ := IH a c (by omega) (h1 a (by simp)) (h2 c (by simp)) 2 _ _ (Nat.le_refl _) (at_star _) (at_star _) e'
    simp only [List.cons.injEq, true_and] at y
    obtain ⟨x2, y2⟩ := tup_uniq (b :: k) (d :: m) (by simp only [Ty.sizes]; omega) (fun t m => h1 t (List.mem_cons_of_mem _ m)) (fun t m => h2 t (List.mem_cons_of_mem _ m)) (by simp) (by simp) r r' s s' y
    exact ⟨by rw [x, x2], y2⟩
end
/-- what stands behind the fields -/
def tl1 (t : Option Nat) : List Nat := tailT [("" : Str)] t
theorem tail_inj {t t' : Option Nat} {r r' : List Nat} (e : tl1 t ++ r = tl1 t' ++ r') : t = t' ∧ r = r' := by
  cases t with
  | none =>
    cases t' with
    | none =>
      injection e with _ e
      exact ⟨rfl, e⟩
    | some m =>
      injection e with e _
      omega
  | some k =>
    cases t' with
    | none =>
      injection e with e _
      omega
    | some m =>
      have e' : mkn (k + 1) ++ (125 :: r) = mkn (m + 1) ++ (125 :: r') := by
        have z : ∀ (k : Nat) (r : List Nat), tl1 (some k) ++ r = 32 :: 124 :: 32 :: 39 :: (mkn (k + 1) ++ (125 :: r)) := fun k r => by
          show ([32, 124, 32, 39] ++ (mkn (k + 1) ++ [125])) ++ r = _
          simp only [List.append_assoc, List.cons_append, List.nil_append]
        rw [z, z] at e
        simpa only [List.cons.injEq, true_and] using e
      obtain ⟨x, y⟩ := run_inj (mkn_low _ _ (Nat.le_refl _)) (mkn_low _ _ (Nat.le_refl _)) (show nlow (125 :: r) from by show ¬ low 125; unfold low; omega) (show nlow (125 :: r') from by show ¬ low 125; unfold low; omega) e'
      have := mkn_inj _ _ _ (Nat.le_refl _) x
      injection y with _ y
      exact ⟨by congr 1; omega, y⟩
theorem tail_stop (t : Option Nat) (r : List Nat) : stop 0 (tl1 t ++ r) := by
  cases t with
  | none => exact .inr (.inr (.inl rfl))
  | some m => exact at_bar _
theorem comma_stop (x : List Nat) : stop 0 (44 :: x) := .inr (.inl rfl)
theorem tail_comma {t : Option Nat} {r x : List Nat} : tl1 t ++ r ≠ 44 :: x := fun e => by
  cases t with
  | none =>
    injection e with e _
    omega
  | some m =>
    injection e with e _
    omega
section
variable {n : Nat} (IH : ∀ t t' : Ty, t.size + t'.size < n → Wy t → Wy t' → Uq t t')
include IH
theorem fld_uniq {l l' : Str} {a a' : Ty} {x x' : List Nat} (hz : a.size + a'.size < n) (wa : Wy a) (wa' : Wy a') (hl : isLab l) (hl' : isLab l') (hx : stop 0 x) (hx' : stop 0 x') (e : tl l ++ ([58, 32] ++ (a.wr ++ x)) = tl l' ++ ([58, 32] ++ (a'.wr ++ x'))) : l = l' ∧ a = a' ∧ x = x' := by
  obtain ⟨e1, e2⟩ := run_inj hl.2 hl'.2 (show nlow (58 :: 32 :: (a.wr ++ x)) from by show ¬ low 58; unfold low; omega) (show nlow (58 :: 32 :: (a'.wr ++ x')) from by show ¬ low 58; unfold low; omega) e
  have e3 : atT 0 a ++ x = atT 0 a' ++ x' := by
    have z : ∀ t : Ty, atT 0 t = t.wr := fun t => by
      unfold atT at_
      rw [if_neg (Nat.not_lt_zero _)]
    rw [z, z]
    simpa only [List.cons_append, List.nil_append, List.cons.injEq, true_and] using e2
  obtain ⟨y, z⟩ := IH a a' hz wa wa' 0 x x' (by decide) hx hx' e3
  exact ⟨ext_tl e1, y, z⟩
theorem flds_uniq : ∀ (ls ls' : List Str) (ks ks' : List Ty) (t t' : Option Nat) (r r' : List Nat), ls.length = ks.length → ls'.length = ks'.length → Ty.sizes ks + Ty.sizes ks' < n → (∀ t ∈ ks, Wy t) → (∀ t ∈ ks', Wy t) → (∀ l ∈ ls, isLab l) → (∀ l ∈ ls', isLab l) → ls ≠ [] → ls' ≠ [] →
    flds ls (Ty.wrs ks) ++ (tl1 t ++ r) = flds ls' (Ty.wrs ks') ++ (tl1 t' ++ r') → ls = ls' ∧ ks = ks' ∧ t = t' ∧ r = r'
  | [], _, _, _, _, _, _, _, _, _, _, _, _, _, _, h, _, _ => absurd rfl h
  | _ :: _, [], _, _, _, _, _, _, _, _, _, _, _, _, _, _, h, _ => absurd rfl h
  | _ :: _, _ :: _, [], _, _, _, _, _, h, _, _, _, _, _, _, _, _, _ => absurd h (by simp)
  | _ :: _, _ :: _, _ :: _, [], _, _, _, _, _, h, _, _, _, _, _, _, _, _ => absurd h (by simp)
  | [_], _, _ :: _ :: _, _, _, _, _, _, h, _, _, _, _, _, _, _, _, _ => absurd h (by simp)
  | _, [_], _, _ :: _ :: _, _, _, _, _, _, h, _, _, _, _, _, _, _, _ => absurd h (by simp)
  | _ :: _ :: _, _, [_], _, _, _, _, _, h, _, _, _, _, _, _, _, _, _ => absurd h (by simp)
  | _, _ :: _ :: _, _, [_], _, _, _, _, _, h, _, _, _, _, _, _, _, _ => absurd h (by simp)
  | [l], [l'], [a], [a'], t, t', r, r', _, _, hz, h1, h2, h3, h4, _, _, e => by
    simp only [Ty.sizes] at hz
    have z : ∀ (l : Str) (a : Ty) (x : List Nat), flds [l] (Ty.wrs [a]) ++ x = tl l ++ ([58, 32] ++ (a.wr ++ x)) := fun l a x => by
      show (tl l ++ ([58, 32] ++ a.wr)) ++ x = _
      simp only [List.append_assoc]
    rw [z, z] at e
    obtain ⟨x1, x2, x3⟩ := fld_uniq (IH) (by omega) (h1 a (by simp)) (h2 a' (by simp)) (h3 l (by simp)) (h4 l' (by simp)) (tail_stop _ _) (tail_stop _ _) e
    obtain ⟨y1, y2⟩ := tail_inj x3
    exact ⟨by rw [x1], by rw [x2], y1, y2⟩
  | [l], l' :: m' :: ls', [a], a' :: ks', t, t', r, r', _, hl, hz, h1, h2, h3, h4, _, _, e => by
    simp only [Ty.sizes] at hz
    have z : ∀ (l : Str) (a : Ty) (x : List Nat), flds [l] (Ty.wrs [a]) ++ x = tl l ++ ([58, 32] ++ (a.wr ++ x)) := fun l a x => by
      show (tl l ++ ([58, 32] ++ a.wr)) ++ x = _
      simp only [List.append_assoc]
    have z2 : ∀ (l m : Str) (ls : List Str) (a : Ty) (ks : List Ty) (x : List Nat), flds (l :: m :: ls) (Ty.wrs (a :: ks)) ++ x = tl l ++ ([58, 32] ++ (a.wr ++ (44 :: 32 :: (flds (m :: ls) (Ty.wrs ks) ++ x)))) := fun l m ls a ks x => by
      show (tl l ++ ([58, 32] ++ (a.wr ++ ([44, 32] ++ flds (m :: ls) (Ty.wrs ks))))) ++ x = _
      simp only [List.append_assoc, List.cons_append, List.nil_append]
    rw [z, z2] at e
    obtain ⟨x1, x2, x3⟩ := fld_uniq (IH) (by omega) (h1 a (by simp)) (h2 a' (by simp)) (h3 l (by simp)) (h4 l' (by simp)) (tail_stop _ _) (comma_stop _) e
    exact absurd x3 tail_comma
  | l' :: m' :: ls', [l], a' :: ks', [a], t, t', r, r', hl, _, hz, h1, h2, h3, h4, _, _, e => by
    simp only [Ty.sizes] at hz
    have z : ∀ (l : Str) (a : Ty) (x : List Nat), flds [l] (Ty.wrs [a]) ++ x = tl l ++ ([58, 32] ++ (a.wr ++ x)) := fun l a x => by
      show (tl l ++ ([58, 32] ++ a.wr)) ++ x = _
      simp only [List.append_assoc]
    have z2 : ∀ (l m : Str) (ls : List Str) (a : Ty) (ks : List Ty) (x : List Nat), flds (l :: m :: ls) (Ty.wrs (a :: ks)) ++ x = tl l ++ ([58, 32] ++ (a.wr ++ (44 :: 32 :: (flds (m :: ls) (Ty.wrs ks) ++ x)))) := fun l m ls a ks x => by
      show (tl l ++ ([58, 32] ++ (a.wr ++ ([44, 32] ++ flds (m :: ls) (Ty.wrs ks))))) ++ x = _
      simp only [List.append_assoc, List.cons_append, List.nil_append]
    rw [z, z2] at e
    obtain ⟨x1, x2, x3⟩ := fld_uniq (IH) (by omega) (h1 a' (by simp)) (h2 a (by simp)) (h3 l' (by simp)) (h4 l (by simp)) (comma_stop _) (tail_stop _ _) e
    exact absurd x3.symm tail_comma
  | l :: m :: ls, l' :: m' :: ls', a :: ks, a' :: ks', t, t', r, r', hl, hl', hz, h1, h2, h3, h4, _, _, e => by
    simp only [Ty.sizes] at hz
    have z2 : ∀ (l m : Str) (ls : List Str) (a : Ty) (ks : List Ty) (x : List Nat), flds (l :: m :: ls) (Ty.wrs (a :: ks)) ++ x = tl l ++ ([58, 32] ++ (a.wr ++ (44 :: 32 :: (flds (m :: ls) (Ty.wrs ks) ++ x)))) := fun l m ls a ks x => by
      show (tl l ++ ([58, 32] ++ (a.wr ++ ([44, 32] ++ flds (m :: ls) (Ty.wrs ks))))) ++ x = _
      simp only [List.append_assoc, List.cons_append, List.nil_append]
    rw [z2, z2] at e
    obtain ⟨x1, x2, x3⟩ := fld_uniq (IH) (by omega) (h1 a (by simp)) (h2 a' (by simp)) (h3 l (by simp)) (h4 l' (by simp)) (comma_stop _) (comma_stop _) e
    simp only [List.cons.injEq, true_and] at x3
    obtain ⟨y1, y2, y3, y4⟩ := flds_uniq (m :: ls) (m' :: ls') ks ks' t t' r r' (by simpa using hl) (by simpa using hl') (by omega) (fun t m => h1 t (List.mem_cons_of_mem _ m)) (fun t m => h2 t (List.mem_cons_of_mem _ m)) (fun t m => h3 t (List.mem_cons_of_mem _ m)) (fun t m => h4 t (List.mem_cons_of_mem _ m)) (by simp) (by simp) x3
    exact ⟨by rw [x1, y1], by rw [x2, y2], y3, y4⟩
end
end Vt


set_option Elab.async false
set_option linter.all false
set_option maxRecDepth 100000
set_option maxHeartbeats 4000000
namespace Vt
open PySem PySem.Spec L2 TL
theorem wrs_len : ∀ ks : List Ty, (Ty.wrs ks).length = ks.length
  | [] => rfl
  | t :: r => by
    simp only [Ty.wrs, List.length_cons, wrs_len r]
theorem atT0 (t : Ty) : atT 0 t = t.wr := by
  unfold atT at_
  rw [if_neg (Nat.not_lt_zero _)]
theorem at_out {L : Nat} {t : Ty} (h : L ≤ t.rank) : atT L t = t.wr := by
  unfold atT at_
  rw [if_neg (Nat.not_lt.mpr h)]
theorem at_in {L : Nat} {t : Ty} (h : t.rank < L) : atT L t = 40 :: (t.wr ++ [41]) := by
  unfold atT at_
  rw [if_pos h]
theorem wr_fn (a b : Ty) (r : List Nat) : (Ty.node .fn [a, b]).wr ++ r = atT 1 a ++ (32 :: 45 :: (62 :: 32 :: (b.wr ++ r))) := by
  show (at_ 1 _ ++ ([32, 45, 62, 32] ++ _)) ++ r = _
  simp only [List.append_assoc, List.cons_append, List.nil_append]
  rfl
theorem wr_tup (a b : Ty) (k : List Ty) (r : List Nat) : (Ty.node .tup (a :: b :: k)).wr ++ r = atT 2 a ++ (32 :: 42 :: (32 :: (sepT (Ty.wrs (b :: k)) ++ r))) := by
  show (at_ 2 _ ++ ([32, 42, 32] ++ _)) ++ r = _
  simp only [List.append_assoc, List.cons_append, List.nil_append]
  rfl
theorem len2 {α : Type} {l : List α} (h : l.length = 2) : ∃ a b, l = [a, b] := by
  match l, h with
  | [a, b], _ => exact ⟨a, b, rfl⟩
theorem len2' {α : Type} {l : List α} (h : 2 ≤ l.length) : ∃ a b k, l = a :: b :: k := by
  match l, h with
  | a :: b :: k, _ => exact ⟨a, b, k, rfl⟩
/-- the first sign of what is no function and no tuple -/
def first : Hy → Nat
  | .var _ => 39
  | .int => 105
  | .bool => 98
  | .rcd _ _ => 123
  | _ => 0
theorem wr_first {h : Hy} {ks : List Ty} (hr : h.rank = 2) (r : List Nat) : ∃ x, (Ty.node h ks).wr ++ r = first h :: x := by
  cases h with
  | fn => cases hr
  | tup => cases hr
  | var n => exact ⟨_, rfl⟩
  | int => exact ⟨_, rfl⟩
  | bool => exact ⟨_, rfl⟩
  | rcd ls t => exact ⟨_, rfl⟩
theorem rank_le (t : Ty) : t.rank ≤ 2 := by
  obtain ⟨h, ks⟩ := t
  cases h <;> simp [Ty.rank, Hy.rank]
section
variable {n : Nat} (IH : ∀ t t' : Ty, t.size + t'.size < n → Wy t → Wy t' → Uq t t')
include IH
/-- two that are no functions and no tuples -/
theorem atom_uniq {h h' : Hy} {ks ks' : List Ty} (hr : h.rank = 2) (hr' : h'.rank = 2) (hz : Ty.size (.node h ks) + Ty.size (.node h' ks') ≤ n) (w : Wy (.node h ks)) (w' : Wy (.node h' ks')) {L : Nat} {r r' : List Nat} (s : stop L r) (s' : stop L r') (e : (Ty.node h ks).wr ++ r = (Ty.node h' ks').wr ++ r') : Ty.node h ks = .node h' ks' ∧ r = r' := by
  simp only [Ty.size] at hz
  have hf : first h = first h' := by
    obtain ⟨x, ex⟩ := wr_first (ks := ks) hr r
    obtain ⟨y, ey⟩ := wr_first (ks := ks') hr' r'
    rw [ex, ey] at e
    injection e
  have o := w.hd
  have o' := w'.hd
  cases h with
  | fn => cases hr
  | tup => cases hr
  | var k =>
    cases h' with
    | var m =>
      obtain rfl := List.eq_nil_of_length_eq_zero o
      obtain rfl := List.eq_nil_of_length_eq_zero o'
      have e' : mkn (k + 1) ++ r = mkn (m + 1) ++ r' := by
        injection e
      obtain ⟨x, y⟩ := run_inj (mkn_low _ _ (Nat.le_refl _)) (mkn_low _ _ (Nat.le_refl _)) (stop_nlow s) (stop_nlow s') e'
      have := mkn_inj _ _ _ (Nat.le_refl _) x
      obtain rfl : k = m := by omega
      exact ⟨rfl, y⟩
    | fn => cases hr'
    | tup => cases hr'
    | int => cases hf
    | bool => cases hf
    | rcd ls t => cases hf
  | int =>
    cases h' with
    | int =>
      obtain rfl := List.eq_nil_of_length_eq_zero o
      obtain rfl := List.eq_nil_of_length_eq_zero o'
      exact ⟨rfl, List.append_cancel_left (as := [105, 110, 116]) e⟩
    | fn => cases hr'
    | tup => cases hr'
    | var n => cases hf
    | bool => cases hf
    | rcd ls t => cases hf
  | bool =>
    cases h' with
    | bool =>
      obtain rfl := List.eq_nil_of_length_eq_zero o
      obtain rfl := List.eq_nil_of_length_eq_zero o'
      exact ⟨rfl, List.append_cancel_left (as := [98, 111, 111, 108]) e⟩
    | fn => cases hr'
    | tup => cases hr'
    | var n => cases hf
    | int => cases hf
    | rcd ls t => cases hf
  | rcd ls t =>
    cases h' with
    | fn => cases hr'
    | tup => cases hr'
    | var n => cases hf
    | int => cases hf
    | bool => cases hf
    | rcd ls' t' =>
      obtain ⟨o1, o2⟩ := o
      obtain ⟨o3, o4⟩ := o'
      have z : ∀ (ls : List Str) (ks : List Ty) (t : Option Nat) (r : List Nat), (Ty.node (.rcd ls t) ks).wr ++ r = 123 :: (flds ls (Ty.wrs ks) ++ (tailT ls t ++ r)) := fun ls ks t r => by
        show (123 :: (flds ls (Ty.wrs ks) ++ tailT ls t)) ++ r = _
        simp only [List.cons_append, List.append_assoc]
      rw [z, z] at e
      injection e with _ e
      have hsome : ∀ (l : Str) (ls : List Str) (ks : List Ty) (x : List Nat), (l :: ls).length = ks.length → isLab l → ∃ c y, flds (l :: ls) (Ty.wrs ks) ++ x = c :: y ∧ low c := fun l ls ks x hk hl => by
        obtain ⟨hn, hlow⟩ := hl
        cases ks with
        | nil => cases hk
        | cons a k =>
          cases hc : tl l with
          | nil => exact absurd hc hn
          | cons c d =>
            rw [hc] at hlow
            cases ls with
            | nil =>
              cases k with
              | nil =>
                refine ⟨c, d ++ (([58, 32] ++ a.wr) ++ x), ?_, hlow c (by simp)⟩
                show (tl l ++ ([58, 32] ++ a.wr)) ++ x = _
                rw [hc, List.append_assoc, List.cons_append]
              | cons => simp at hk
            | cons m ls =>
              refine ⟨c, d ++ (([58, 32] ++ (a.wr ++ ([44, 32] ++ flds (m :: ls) (Ty.wrs k)))) ++ x), ?_, hlow c (by simp)⟩
              show (tl l ++ ([58, 32] ++ (a.wr ++ ([44, 32] ++ flds (m :: ls) (Ty.wrs k))))) ++ x = _
              rw [hc, List.append_assoc, List.cons_append]
      have hnone : ∀ (ks : List Ty) (t : Option Nat) (r : List Nat), 0 = ks.length → ∃ c y, flds [] (Ty.wrs ks) ++ (tailT [] t ++ r) = c :: y ∧ ¬ low c := fun ks t r hk => by
        obtain rfl := List.eq_nil_of_length_eq_zero hk.symm
        cases t with
        | none => exact ⟨125, _, rfl, by unfold low; omega⟩
        | some m => exact ⟨124, _, rfl, by unfold low; omega⟩
      cases ls with
      | nil =>
        cases ls' with
        | nil =>
          obtain rfl := List.eq_nil_of_length_eq_zero o1
          obtain rfl := List.eq_nil_of_length_eq_zero o3
          have e' : tl1 t ++ r = tl1 t' ++ r' := by
            have z2 : ∀ (t : Option Nat) (r x : List Nat), flds [] (Ty.wrs []) ++ (tailT [] t ++ r) = x → tl1 t ++ r = (match t with | none => x | some _ => 32 :: x) := fun t r x h => by
              subst h
              cases t <;> rfl
            cases t with
            | none =>
              cases t' with
              | none => exact e
              | some m =>
                injection e with e _
                omega
            | some k =>
              cases t' with
              | none =>
                injection e with e _
                omega
              | some m => exact congrArg (32 :: ·) e
          obtain ⟨y1, y2⟩ := tail_inj e'
          exact ⟨by rw [y1], y2⟩
        | cons l' ls' =>
          obtain ⟨c, y, e1, h1⟩ := hnone ks t r o1.symm
          obtain ⟨d, y', e2, h2⟩ := hsome l' ls' ks' (tailT (l' :: ls') t' ++ r') o3.symm (o4 l' (by simp))
          rw [e1, e2] at e
          injection e with e _
          rw [e] at h1
          exact absurd h2 h1
      | cons l ls =>
        cases ls' with
        | nil =>
          obtain ⟨c, y, e1, h1⟩ := hnone ks' t' r' o3.symm
          obtain ⟨d, y', e2, h2⟩ := hsome l ls ks (tailT (l :: ls) t ++ r) o1.symm (o2 l (by simp))
          rw [e1, e2] at e
          injection e with e _
          rw [← e] at h1
          exact absurd h2 h1
        | cons l' ls' =>
          have zt : ∀ (l : Str) (ls : List Str) (t : Option Nat), tailT (l :: ls) t = tl1 t := fun l ls t => by cases t <;> rfl
          rw [zt, zt] at e
          obtain ⟨x1, x2, x3, x4⟩ := flds_uniq IH (l :: ls) (l' :: ls') ks ks' t t' r r' o1.symm o3.symm (by omega) (fun u m => w.kid m) (fun u m => w'.kid m) o2 o4 (by simp) (by simp) e
          exact ⟨by rw [x1, x2, x3], x4⟩
end
end Vt


set_option Elab.async false
set_option linter.all false
set_option maxRecDepth 100000
set_option maxHeartbeats 4000000
namespace Vt
open PySem PySem.Spec L2 TL
section
variable {n : Nat} (IH : ∀ t t' : Ty, t.size + t'.size < n → Wy t → Wy t' → Uq t t')
include IH
/-- a function against what is none -/
theorem fn_apart {ks : List Ty} {t' : Ty} (hz : Ty.size (.node .fn ks) + t'.size ≤ n) (w : Wy (.node .fn ks)) (w' : Wy t') (h1 : 1 ≤ t'.rank) {r r' : List Nat} (s' : stop 0 r') (e : (Ty.node .fn ks).wr ++ r = t'.wr ++ r') : False := by
  obtain ⟨a, b, rfl⟩ := len2 (show ks.length = 2 from w.hd)
  simp only [Ty.size, Ty.sizes] at hz
  have := Ty.pos b
  rw [wr_fn, ← at_out h1] at e
  obtain ⟨_, y⟩ := IH a t' (by omega) (w.kid (by simp)) w' 1 _ _ (by decide) (at_arrow _) (stop_le (by decide) s') e
  rw [← y] at s'
  exact no_arrow s'
/-- a tuple against what is neither -/
theorem tup_apart {ks : List Ty} {t' : Ty} (hz : Ty.size (.node .tup ks) + t'.size ≤ n) (w : Wy (.node .tup ks)) (w' : Wy t') (h1 : 2 ≤ t'.rank) {r r' : List Nat} (s' : stop 1 r') (e : (Ty.node .tup ks).wr ++ r = t'.wr ++ r') : False := by
  obtain ⟨a, b, k, rfl⟩ := len2' (show 2 ≤ ks.length from w.hd.1)
  simp only [Ty.size, Ty.sizes] at hz
  have := Ty.pos b
  rw [wr_tup, ← at_out h1] at e
  obtain ⟨_, y⟩ := IH a t' (by omega) (w.kid (by simp)) w' 2 _ _ (by decide) (at_star _) (stop_le (by decide) s') e
  rw [← y] at s'
  exact no_star s'
/-- two without brackets -/
theorem bare_uniq {t t' : Ty} (hz : t.size + t'.size ≤ n) (w : Wy t) (w' : Wy t') {L : Nat} (h1 : L ≤ t.rank) (h2 : L ≤ t'.rank) {r r' : List Nat} (s : stop L r) (s' : stop L r') (e : t.wr ++ r = t'.wr ++ r') : t = t' ∧ r = r' := by
  obtain ⟨h, ks⟩ := t
  obtain ⟨h', ks'⟩ := t'
  by_cases c : h.rank = 2
  · by_cases c' : h'.rank = 2
    · exact atom_uniq IH c c' hz w w' s s' e
    · cases h' with
      | fn =>
        have : L = 0 := Nat.le_zero.mp h2
        subst this
        exact (fn_apart IH (by omega) w' w (show 1 ≤ h.rank by omega) s e.symm).elim
      | tup => exact (tup_apart IH (by omega) w' w (show 2 ≤ h.rank by omega) (stop_le h2 s) e.symm).elim
      | var n => exact absurd rfl c'
      | int => exact absurd rfl c'
      | bool => exact absurd rfl c'
      | rcd ls t => exact absurd rfl c'
  · cases h with
    | var n => exact absurd rfl c
    | int => exact absurd rfl c
    | bool => exact absurd rfl c
    | rcd ls t => exact absurd rfl c
    | fn =>
      have : L = 0 := Nat.le_zero.mp h1
      subst this
      by_cases c' : 1 ≤ h'.rank
      · exact (fn_apart IH hz w w' c' s' e).elim
      · cases h' with
        | fn =>
          obtain ⟨a, b, rfl⟩ := len2 (show ks.length = 2 from w.hd)
          obtain ⟨a', b', rfl⟩ := len2 (show ks'.length = 2 from w'.hd)
          simp only [Ty.size, Ty.sizes] at hz
          rw [wr_fn, wr_fn] at e
          obtain ⟨x, y⟩ := IH a a' (by omega) (w.kid (by simp)) (w'.kid (by simp)) 1 _ _ (by decide) (at_arrow _) (at_arrow _) e
          simp only [List.cons.injEq, true_and] at y
          rw [← atT0, ← atT0] at y
          obtain ⟨x2, y2⟩ := IH b b' (by omega) (w.kid (by simp)) (w'.kid (by simp)) 0 _ _ (by decide) s s' y
          exact ⟨by rw [x, x2], y2⟩
        | tup => exact absurd (show 1 ≤ Hy.tup.rank by decide) c'
        | var n => exact absurd (show 1 ≤ (Hy.var n).rank by simp [Hy.rank]) c'
        | int => exact absurd (show 1 ≤ Hy.int.rank by decide) c'
        | bool => exact absurd (show 1 ≤ Hy.bool.rank by decide) c'
        | rcd ls t => exact absurd (show 1 ≤ (Hy.rcd ls t).rank by simp [Hy.rank]) c'
    | tup =>
      by_cases c' : 2 ≤ h'.rank
      · exact (tup_apart IH hz w w' c' (stop_le h1 s') e).elim
      · cases h' with
        | fn =>
          have : L = 0 := Nat.le_zero.mp h2
          subst this
          exact (fn_apart IH (by omega) w' w (show 1 ≤ Hy.tup.rank by decide) s e.symm).elim
        | tup =>
          have hz' := hz
          simp only [Ty.size] at hz'
          have l1 := w.hd.1
          have l2 := w'.hd.1
          obtain ⟨x, y⟩ := tup_uniq IH ks ks' (by omega) (fun u m => w.kid m) (fun u m => w'.kid m) (fun z => by rw [z] at l1; simp at l1) (fun z => by rw [z] at l2; simp at l2) r r' (stop_le h1 s) (stop_le h2 s') e
          exact ⟨by rw [x], y⟩
        | var n => exact absurd (show 2 ≤ (Hy.var n).rank by simp [Hy.rank]) c'
        | int => exact absurd (show 2 ≤ Hy.int.rank by decide) c'
        | bool => exact absurd (show 2 ≤ Hy.bool.rank by decide) c'
        | rcd ls t => exact absurd (show 2 ≤ (Hy.rcd ls t).rank by simp [Hy.rank]) c'
/-- one in brackets against one without -/
theorem mixed {t t' : Ty} (hz : t.size + t'.size ≤ n) (w : Wy t) (w' : Wy t') {L : Nat} (hL : L ≤ 2) (h1 : t.rank < L) (h2 : L ≤ t'.rank) {r r' : List Nat} (s : stop L r) (s' : stop L r') (e : atT L t ++ r = atT L t' ++ r') : False := by
  obtain ⟨h', ks'⟩ := t'
  by_cases c : h'.rank = 2
  · rw [at_in h1, at_out h2] at e
    obtain ⟨x, ex⟩ := wr_first (ks := ks') c r'
    rw [ex] at e
    injection e with e _
    cases h' <;> first | exact absurd (show (40 : Nat) = 39 from e) (by decide) | exact absurd (show (40 : Nat) = 105 from e) (by decide) | exact absurd (show (40 : Nat) = 98 from e) (by decide) | exact absurd (show (40 : Nat) = 123 from e) (by decide) | cases c
  · cases h' with
    | fn =>
      have z : L ≤ 0 := h2
      omega
    | tup =>
      have z : L ≤ 1 := h2
      obtain rfl : L = 1 := by omega
      obtain ⟨a, b, k, rfl⟩ := len2' (show 2 ≤ ks'.length from w'.hd.1)
      have e12 : atT 1 t = atT 2 t := by rw [at_in h1, at_in (by omega)]
      rw [at_out h2, wr_tup, e12] at e
      simp only [Ty.size, Ty.sizes] at hz
      have := Ty.pos b
      obtain ⟨_, y⟩ := IH t a (by omega) w (w'.kid (by simp)) 2 _ _ (by decide) (stop_le (by decide) s) (at_star _) e
      rw [y] at s
      exact no_star s
    | var n => exact absurd rfl c
    | int => exact absurd rfl c
    | bool => exact absurd rfl c
    | rcd ls t => exact absurd rfl c
theorem step_uniq {t t' : Ty} (hz : t.size + t'.size ≤ n) (w : Wy t) (w' : Wy t') : Uq t t' := fun L r r' hL s s' e => by
  by_cases c : t.rank < L
  · by_cases c' : t'.rank < L
    · rw [at_in c, at_in c'] at e
      have e' : t.wr ++ (41 :: r) = t'.wr ++ (41 :: r') := by
        simpa only [List.cons_append, List.append_assoc, List.nil_append, List.cons.injEq, true_and] using e
      obtain ⟨x, y⟩ := bare_uniq IH hz w w' (Nat.zero_le _) (Nat.zero_le _) (show stop 0 (41 :: r) from Or.inl rfl) (show stop 0 (41 :: r') from Or.inl rfl) e'
      injection y with _ y
      exact ⟨x, y⟩
    · exact (mixed IH hz w w' hL c (by omega) s s' e).elim
  · by_cases c' : t'.rank < L
    · exact (mixed IH (by omega) w' w hL c' (by omega) s' s e.symm).elim
    · rw [at_out (by omega), at_out (by omega)] at e
      exact bare_uniq IH hz w w' (by omega) (by omega) s s' e
end
theorem uniq : ∀ n : Nat, ∀ t t' : Ty, t.size + t'.size < n → Wy t → Wy t' → Uq t t' := by
  intro n
  induction n with
  | zero => intro t t' h; omega
  | succ n ih => exact fun t t' h w w' => step_uniq ih (by omega) w w'
/-- a text is that of one tree alone -/
theorem wr_inj {t t' : Ty} (w : Wy t) (w' : Wy t') (e : t.wr = t'.wr) : t = t' :=
  (uniq _ t t' (Nat.lt_succ_self _) w w' 0 [] [] (by decide) trivial trivial (by rw [atT0, atT0, e])).1
end Vt


set_option Elab.async false
set_option linter.all false
set_option maxRecDepth 100000
set_option maxHeartbeats 4000000
namespace Vt
open PySem PySem.Spec L2 TL
/-! ### marks numbered anew -/
def addM (n : Nat) (s : List Nat) : List Nat := if n ∈ s then s else s ++ [n]
def Hy.mark : Hy → Option Nat
  | .var n => some n
  | .rcd _ t => t
  | _ => none
def Hy.num : Hy → List Nat → Hy
  | .var n, s => .var (s.idxOf n)
  | .rcd ls (some m), s => .rcd ls (some (s.idxOf m))
  | h, _ => h
def Hy.seen (h : Hy) (s : List Nat) : List Nat := match h.mark with
  | some n => addM n s
  | none => s
def Hy.map (f : Nat → Nat) : Hy → Hy
  | .var n => .var (f n)
  | .rcd ls t => .rcd ls (t.map f)
  | h => h
mutual
/-- the marks seen, and the tree with the places of its marks -/
def Ty.num : Ty → List Nat → Ty × List Nat
  | .node h ks, s => (.node (h.num (Ty.nums ks s).2) (Ty.nums ks s).1, h.seen (Ty.nums ks s).2)
def Ty.nums : List Ty → List Nat → List Ty × List Nat
  | [], s => ([], s)
  | t :: r, s => ((t.num s).1 :: (Ty.nums r (t.num s).2).1, (Ty.nums r (t.num s).2).2)
end
mutual
def Ty.map (f : Nat → Nat) : Ty → Ty
  | .node h ks => .node (h.map f) (Ty.maps f ks)
def Ty.maps (f : Nat → Nat) : List Ty → List Ty
  | [] => []
  | t :: r => t.map f :: Ty.maps f r
end
mutual
def Ty.marks : Ty → List Nat
  | .node h ks => Ty.markss ks ++ h.mark.toList
def Ty.markss : List Ty → List Nat
  | [] => []
  | t :: r => t.marks ++ Ty.markss r
end
def inj (f : Nat → Nat) (s : List Nat) : Prop := ∀ a ∈ s, ∀ b ∈ s, f a = f b → a = b
theorem inj.sub {f : Nat → Nat} {s s' : List Nat} (h : inj f s) (k : ∀ a ∈ s', a ∈ s) : inj f s' := fun a ha b hb e => h a (k a ha) b (k b hb) e
theorem idx_map {f : Nat → Nat} : ∀ {s : List Nat} {n : Nat}, inj f (n :: s) → (s.map f).idxOf (f n) = s.idxOf n
  | [], n, _ => rfl
  | a :: s, n, h => by
    rw [List.map_cons, List.idxOf_cons, List.idxOf_cons, idx_map (h.sub fun x m => by
      rcases List.mem_cons.mp m with m | m
      · rw [m]; exact List.mem_cons_self ..
      · exact List.mem_cons_of_mem _ (List.mem_cons_of_mem _ m))]
    by_cases e : a = n
    · rw [e]
      simp
    · have e' : f a ≠ f n := fun z => e (h a (by simp) n (by simp) z)
      have b1 : (a == n) = false := by simpa using e
      have b2 : (f a == f n) = false := by simpa using e'
      rw [b1, b2]
theorem add_map {f : Nat → Nat} {s : List Nat} {n : Nat} (h : inj f (n :: s)) : addM (f n) (s.map f) = (addM n s).map f := by
  unfold addM
  by_cases m : n ∈ s
  · rw [if_pos m, if_pos (List.mem_map_of_mem m)]
  · have m' : f n ∉ s.map f := fun z => by
      obtain ⟨b, hb, e⟩ := List.mem_map.mp z
      exact m (by rw [h n (by simp) b (by simp [hb]) e.symm]; exact hb)
    rw [if_neg m, if_neg m', List.map_append]
    rfl
theorem mem_add {a n : Nat} {s : List Nat} : a ∈ addM n s ↔ a ∈ s ∨ a = n := by
  unfold addM
  split
  · rename_i h
    constructor
    · exact .inl
    · rintro (h' | rfl)
      · exact h'
      · exact h
  · simp
theorem mem_seen {h : Hy} {a : Nat} {s : List Nat} : a ∈ h.seen s ↔ a ∈ s ∨ a ∈ h.mark.toList := by
  unfold Hy.seen
  cases h.mark with
  | none => simp
  | some n => simp [mem_add]
mutual
theorem num_mem : ∀ (t : Ty) (s : List Nat) (a : Nat), a ∈ (t.num s).2 ↔ a ∈ s ∨ a ∈ t.marks
  | .node h ks, s, a => by
    simp only [Ty.num, Ty.marks, mem_seen, nums_mem ks s a, List.mem_append, or_assoc]
theorem nums_mem : ∀ (ks : List Ty) (s : List Nat) (a : Nat), a ∈ (Ty.nums ks s).2 ↔ a ∈ s ∨ a ∈ Ty.markss ks
  | [], s, a => by simp [Ty.nums, Ty.markss]
  | t :: r, s, a => by
    simp only [Ty.nums, Ty.markss, nums_mem r _ a, num_mem t s a, List.mem_append, or_assoc]
end
theorem hy_map {f : Nat → Nat} {h : Hy} {s : List Nat} (i : inj f (s ++ h.mark.toList)) : (h.map f).num (s.map f) = h.num s ∧ (h.map f).seen (s.map f) = (h.seen s).map f := by
  have i' : ∀ n, h.mark = some n → inj f (n :: s) := fun n e => i.sub fun x m => by
    rcases List.mem_cons.mp m with m | m
    · rw [e, m]; simp
    · simp [m]
  cases h with
  | var n =>
    have := i' n rfl
    exact ⟨congrArg Hy.var (idx_map this), add_map this⟩
  | int => exact ⟨rfl, rfl⟩
  | bool => exact ⟨rfl, rfl⟩
  | fn => exact ⟨rfl, rfl⟩
  | tup => exact ⟨rfl, rfl⟩
  | rcd ls t =>
    cases t with
    | none => exact ⟨rfl, rfl⟩
    | some m =>
      have := i' m rfl
      exact ⟨congrArg (fun z => Hy.rcd ls (some z)) (idx_map this), add_map this⟩
mutual
/-- other numbers, the same places -/
theorem num_map {f : Nat → Nat} : ∀ (t : Ty) (s : List Nat), inj f (s ++ t.marks) → (t.map f).num (s.map f) = ((t.num s).1, (t.num s).2.map f)
  | .node h ks, s, i => by
    have h1 := nums_map ks s (i.sub fun x m => by
      simp only [Ty.marks, List.mem_append] at m ⊢
      rcases m with m | m
      · exact .inl m
      · exact .inr (.inl m))
    obtain ⟨h2, h3⟩ := hy_map (h := h) (s := (Ty.nums ks s).2) (i.sub fun x m => by
      simp only [Ty.marks, List.mem_append, nums_mem] at m ⊢
      rcases m with (m | m) | m
      · exact .inl m
      · exact .inr (.inl m)
      · exact .inr (.inr m))
    simp only [Ty.map, Ty.num, h1, h2, h3]
theorem nums_map {f : Nat → Nat} : ∀ (ks : List Ty) (s : List Nat), inj f (s ++ Ty.markss ks) → Ty.nums (Ty.maps f ks) (s.map f) = ((Ty.nums ks s).1, (Ty.nums ks s).2.map f)
  | [], s, _ => rfl
  | t :: r, s, i => by
    have h1 := num_map t s (i.sub fun x m => by
      simp only [Ty.markss, List.mem_append] at m ⊢
      rcases m with m | m
      · exact .inl m
      · exact .inr (.inl m))
    have h2 := nums_map r (t.num s).2 (i.sub fun x m => by
      simp only [Ty.markss, List.mem_append, num_mem] at m ⊢
      rcases m with (m | m) | m
      · exact .inl m
      · exact .inr (.inl m)
      · exact .inr (.inr m))
    simp only [Ty.maps, Ty.nums, h1, h2]
end
/-! what is numbered is the tree with the places of its marks -/
theorem idx_app {s r : List Nat} {n : Nat} (h : n ∈ s) : (s ++ r).idxOf n = s.idxOf n := by
  rw [List.idxOf_append, if_pos h]
theorem idx_add {s : List Nat} {n : Nat} : (addM n s).idxOf n = s.idxOf n := by
  unfold addM
  split
  · rfl
  · rename_i h
    rw [List.idxOf_append, if_neg h]
    simp [List.idxOf_eq_length h]
theorem hy_place {h : Hy} {s r : List Nat} : h.num s = h.map fun n => (h.seen s ++ r).idxOf n := by
  have z : ∀ n, h.mark = some n → (h.seen s ++ r).idxOf n = s.idxOf n := fun n e => by
    rw [idx_app (mem_seen.mpr (.inr (by rw [e]; simp)))]
    unfold Hy.seen
    rw [e]
    exact idx_add
  cases h with
  | var n => exact congrArg Hy.var (z n rfl).symm
  | int => rfl
  | bool => rfl
  | fn => rfl
  | tup => rfl
  | rcd ls t =>
    cases t with
    | none => rfl
    | some m => exact congrArg (fun z => Hy.rcd ls (some z)) (z m rfl).symm
theorem add_pre (n : Nat) (s : List Nat) : ∃ r, addM n s = s ++ r := by
  unfold addM
  split
  · exact ⟨[], (List.append_nil _).symm⟩
  · exact ⟨[n], rfl⟩
theorem seen_pre (h : Hy) (s : List Nat) : ∃ r, h.seen s = s ++ r := by
  unfold Hy.seen
  cases h.mark with
  | none => exact ⟨[], (List.append_nil _).symm⟩
  | some n => exact add_pre n s
mutual
theorem num_pre : ∀ (t : Ty) (s : List Nat), ∃ r, (t.num s).2 = s ++ r
  | .node h ks, s => by
    obtain ⟨r, e⟩ := nums_pre ks s
    obtain ⟨r', e'⟩ := seen_pre h (Ty.nums ks s).2
    refine ⟨r ++ r', ?_⟩
    simp only [Ty.num]
    rw [e', e, List.append_assoc]
theorem nums_pre : ∀ (ks : List Ty) (s : List Nat), ∃ r, (Ty.nums ks s).2 = s ++ r
  | [], s => ⟨[], (List.append_nil _).symm⟩
  | t :: k, s => by
    obtain ⟨r, e⟩ := num_pre t s
    obtain ⟨r', e'⟩ := nums_pre k (t.num s).2
    refine ⟨r ++ r', ?_⟩
    simp only [Ty.nums]
    rw [e', e, List.append_assoc]
end
mutual
theorem num_place : ∀ (t : Ty) (s r : List Nat), (t.num s).1 = t.map fun n => ((t.num s).2 ++ r).idxOf n
  | .node h ks, s, r => by
    obtain ⟨q, e⟩ := seen_pre h (Ty.nums ks s).2
    have h1 := nums_place ks s (q ++ r)
    simp only [Ty.num, Ty.map]
    rw [h1, e, List.append_assoc, ← List.append_assoc, ← e, ← hy_place]
theorem nums_place : ∀ (ks : List Ty) (s r : List Nat), (Ty.nums ks s).1 = Ty.maps (fun n => ((Ty.nums ks s).2 ++ r).idxOf n) ks
  | [], _, _ => rfl
  | t :: k, s, r => by
    obtain ⟨q, e⟩ := nums_pre k (t.num s).2
    have h1 := num_place t s (q ++ r)
    have h2 := nums_place k (t.num s).2 r
    simp only [Ty.nums, Ty.maps]
    rw [← h2, e, List.append_assoc, ← h1]
end
theorem idx_inj (s : List Nat) : inj (fun n => s.idxOf n) s := fun a ha b hb e => by
  have h1 := List.getElem_idxOf (List.idxOf_lt_length_of_mem ha)
  have h2 := List.getElem_idxOf (List.idxOf_lt_length_of_mem hb)
  have e' : s.idxOf a = s.idxOf b := e
  rw [← h1, ← h2]
  congr 1
/-- once more changes nothing -/
theorem num_num (t : Ty) : ((t.num []).1.num []).1 = (t.num []).1 := by
  have h := num_place t [] []
  rw [List.append_nil] at h
  have := num_map (f := fun n => (t.num []).2.idxOf n) t [] ((idx_inj (t.num []).2).sub fun a m => by
    rw [List.nil_append] at m
    exact (num_mem t [] a).mpr (.inr m))
  rw [← h, List.map_nil] at this
  rw [this]
end Vt


set_option Elab.async false
set_option linter.all false
set_option maxRecDepth 100000
set_option maxHeartbeats 4000000
namespace Vt
open PySem PySem.Spec L2 TL
theorem ok_num {h : Hy} {s : List Nat} {k : Nat} (o : okHy h k) : okHy (h.num s) k := by
  cases h with
  | rcd ls t => cases t <;> exact o
  | var n => exact o
  | int => exact o
  | bool => exact o
  | fn => exact o
  | tup => exact o
theorem ok_map {f : Nat → Nat} {h : Hy} {k : Nat} (o : okHy h k) : okHy (h.map f) k := by
  cases h with
  | rcd ls t => exact o
  | var n => exact o
  | int => exact o
  | bool => exact o
  | fn => exact o
  | tup => exact o
theorem maps_len {f : Nat → Nat} : ∀ ks : List Ty, (Ty.maps f ks).length = ks.length
  | [] => rfl
  | t :: r => by simp only [Ty.maps, List.length_cons, maps_len r]
theorem mem_maps {f : Nat → Nat} : ∀ {ks : List Ty} {u : Ty}, u ∈ Ty.maps f ks → ∃ t ∈ ks, u = t.map f
  | [], u, m => by cases m
  | t :: r, u, m => by
    simp only [Ty.maps, List.mem_cons] at m
    rcases m with rfl | m
    · exact ⟨t, by simp, rfl⟩
    · obtain ⟨v, hv, e⟩ := mem_maps m
      exact ⟨v, by simp [hv], e⟩
theorem Wy.map {f : Nat → Nat} : ∀ {t : Ty}, Wy t → Wy (t.map f) := by
  intro t w
  induction w with
  | mk o _ ih =>
    simp only [Ty.map]
    refine .mk (by rw [maps_len]; exact ok_map o) fun u m => ?_
    obtain ⟨v, hv, rfl⟩ := mem_maps m
    exact ih v hv
theorem Wy.num {t : Ty} (w : Wy t) : Wy (t.num []).1 := by
  rw [num_place t [] []]
  exact w.map
/-- the text of a tree: its marks numbered anew -/
def Ty.text (t : Ty) : List Nat := (t.num []).1.wr
/-- texts are equal just if the trees with their marks numbered anew are -/
theorem text_iff {t t' : Ty} (w : Wy t) (w' : Wy t') : t.text = t'.text ↔ (t.num []).1 = (t'.num []).1 :=
  ⟨fun e => wr_inj w.num w'.num e, fun e => by unfold Ty.text; rw [e]⟩
theorem text_map {t : Ty} {f : Nat → Nat} (i : inj f t.marks) : ((t.map f).num []).1 = (t.num []).1 := by
  have := num_map t [] (f := f) (by simpa using i)
  rw [List.map_nil] at this
  rw [this]
end Vt


set_option Elab.async false
set_option linter.all false
set_option maxRecDepth 100000
set_option maxHeartbeats 4000000

namespace Vt
open PySem PySem.Spec PyProof.Rows L2 TL
/-! ### names of fields, as they are drawn -/
def menu14 : List Str := ["a", "ab", "abc", "b", "fields", "int", "longname", "x", "y", "zzzzzzzz"]
theorem ifTt {b : Bool} {p q : Prop} (h : b = true) (k : p) : (if b = true then p else q) := by rw [if_pos h]; exact k
theorem ifFf {b : Bool} {p q : Prop} (h : b = false) (k : q) : (if b = true then p else q) := by rw [if_neg (by rw [h]; decide)]; exact k
theorem gn {i : Nat} {v : V} {rest : L2.St → Hp → Prop} {σ : L2.St} {H : Hp} (h : rest (σ.set i (some v)) H) : gName i v σ H rest := h
def spLabels (K : PySem.W.Frag) : Sp := fun vs H Q _ => ∃ (s : Addr) (m : Nat), vs = [.ref s, .int (m : Nat)] ∧ Src H s ∧
  ∀ (p : Addr) (ns : List Str) (H' : Hp), Keep s H H' → Src H' s → H p = none → H' p = some (.lst (ns.map V.str)) → ns.Sublist menu14 → ns.length ≤ m → Q (.ref p) H'
abbrev s_law_labels : Stmt := topS 50
abbrev N_law_labels : List Str := ["source", "most", "menu", "name"]
theorem sc_law_labels : FnScope N_law_labels ["source", "most"] (defScope s_law_labels) := ⟨rfl, rfl, rfl, by decide +kernel, rfl, by decide +kernel, by decide +kernel⟩
section
variable {P : Program} {w : World} {K : PySem.W.Frag} {mg : Str → Option Value} {base : Heap}
theorem ok_labels (S : Stands K mg "_law_labels" s_law_labels ["source", "most"]) (Z : Blt mg) (H_law_next : DefOk P w K mg base CX0 1 "_law_next" ["source", "many"] spNext) : DefOk P w K mg base CX0 2 "_law_labels" ["source", "most"] (spLabels K) := by
  obtain ⟨f, fd, F, hm, hb⟩ := S
  obtain ⟨f_law_next, fd_law_next, G_law_next, m_law_next, k_law_next, b_law_next⟩ := H_law_next
  refine ⟨f, fd, ?_, hm, F.kp, hb⟩
  have nd := sc_law_labels.nd
  refine F.ok sc_law_labels (fun vs H Q E h => ?_) (fun cdv A outer s0 H vs Q E hr h => ?_)
  · obtain ⟨s, m, rfl, _⟩ := h
    rfl
  obtain ⟨s, m, rfl, hs, q⟩ := h
  refine ⟨_, (pss_cons (ps_set (i := 2) nd rfl (Or.inl rfl) (pe_lst (pa_cons pe_str (pa_cons pe_str (pa_cons pe_str (pa_cons pe_str (pa_cons pe_str (pa_cons pe_str (pa_cons pe_str (pa_cons pe_str (pa_cons pe_str (pa_cons pe_str pa_nil))))))))))))
      (pss_one (ps_ret (pe_slice sl_list (pe_lc (own := [("name", 3)]) (g := gName 3) (tt := _) rfl nd (pi_list (pv 2)) (blkOk_by (N := N_law_labels) (sc := defScope s_law_labels) (by decide +kernel)) (fun _ _ _ _ _ => (pg_name (i := 3) nd rfl (Or.inl rfl))) (fun _ _ _ _ _ => pts_one (pt_cmpR op_eq (pe_call G_law_next (hr.mono (by decide)) rfl m_law_next k_law_next b_law_next .nil pass0 (pa_cons (pv 0) (pa_cons pe_int pa_nil))) pe_int (nomark _))) (fun _ _ _ _ _ => (pv 3))) po_none (po_some (pv 1)))))), ?_⟩
  refine ⟨sz (by simp), fun p0 hp0 => ?_⟩
  have S0 := same_new hp0 (.lst (menu14.map V.str))
  have l0 := @upd_same H p0 (.lst (menu14.map V.str))
  have hs0 := hs.same S0
  refine gn ?_
  dsimp only
  change tRet _ _ [some (.ref s), some (.int (m : Nat)), some (.ref p0), none] (upd H p0 (.lst (menu14.map V.str)))
  have n0 : p0 ≠ s := fun z => by
    obtain ⟨x, y, z2, e⟩ := hs
    rw [z, e] at hp0
    cases hp0
  generalize upd H p0 (.lst (menu14.map V.str)) = H0 at *
  refine ⟨_, rfl, p0, rfl, ⟨_, SqL.of l0⟩, fun D hD => ?_⟩
  have SD := same_new hD (.lst [])
  have nD : D ≠ s := fun z => by
    obtain ⟨x, y, z2, e⟩ := hs0
    rw [z, e] at hD
    cases hD
  refine lc_list (K := K) (a := p0) (xs := menu14.map V.str) (fun i X => Keep s H X ∧ Src X s ∧ X p0 = some (.lst (menu14.map V.str)) ∧ ∃ ns : List Str, X D = some (.lst (ns.map V.str)) ∧ ns.Sublist (menu14.take i)) ⟨(S0.trans SD).keep, hs0.same SD, SD _ _ l0, [], upd_same, List.Sublist.slnil⟩ (fun i X hi g => SqL.of g.2.2.1) ?_ ?_
  · rintro i x X hx ⟨k1, c1, e1, ns, e2, sub⟩
    rw [List.getElem?_map] at hx
    cases ey : menu14[i]? with
    | none =>
      rw [ey] at hx
      cases hx
    | some y =>
      rw [ey] at hx
      obtain rfl : V.str y = x := by injection hx
      have et : menu14.take (i + 1) = menu14.take i ++ [y] := by rw [List.take_add_one, ey]; rfl
      have pD : p0 ≠ D := fun z => by rw [← z, l0] at hD; cases hD
      refine gn ?_
      refine ⟨rfl, ?_⟩
      refine ⟨_, rfl, s, 3, rfl, c1, by decide, by decide, fun d X2 d0 d1 k2 c2 => ?_⟩
      have e1' := k2 p0 _ n0 e1
      have e2' := k2 D _ nD e2
      refine ⟨rfl, _, rfl, ?_⟩
      by_cases z : d = 0
      · refine ifTt (decide_eq_true (by rw [z])) ?_
        have oD : ∀ b o, H b = some o → b ≠ D := fun b o e z => by
          rw [z] at e
          have := S0 _ _ e
          rw [hD] at this
          cases this
        refine ⟨_, rfl, ns.map V.str, e2', sz (by
          have := sub.length_le
          have h10 : (menu14.take i).length ≤ 10 := by rw [List.length_take]; exact Nat.min_le_right _ _
          rw [List.length_map]
          omega), fun b o hb e => ?_, c2.wr nD, ?_, ns ++ [y], ?_, ?_⟩
        · rw [upd_ne (oD b o e)]
          exact k2 b o hb (k1 b o hb e)
        · rw [upd_ne pD]
          exact e1'
        · rw [upd_same, List.map_append]
          rfl
        · rw [et]
          exact List.Sublist.append sub (List.Sublist.refl _)
      · refine ifFf (decide_eq_false (by intro e; injection e with e; exact z e)) ?_
        refine ⟨k1.trans k2, c2, e1', ns, e2', ?_⟩
        rw [et]
        exact sub.trans (List.sublist_append_left _ _)
  · rintro X ⟨k1, c1, e1, ns, e2, sub⟩
    have hcut : cutV (ns.map V.str) none (some ((m : Nat) : Int)) = (ns.take m).map V.str := by
      show ((ns.map V.str).drop 0).take (HT.sIx (ns.map V.str).length (ns.map V.str).length (some ((m : Nat) : Int)) - 0) = _
      rw [HT.sIx_nat, List.length_map, List.drop_zero, Nat.sub_zero, ← List.map_take]
      congr 1
      rcases Nat.lt_or_ge m ns.length with h | h
      · rw [Nat.min_eq_left (by omega)]
      · rw [Nat.min_eq_right h, List.take_length, List.take_of_length_le h]
    refine ⟨_, rfl, _, rfl, D, _, rfl, SqL.of e2, fun p hp => ?_⟩
    rw [hcut]
    have hpH : H p = none := by
      cases e : H p with
      | none => rfl
      | some o =>
        by_cases z : p = s
        · obtain ⟨x, y, z2, e3⟩ := c1
          rw [z, e3] at hp
          cases hp
        · rw [k1 p o z e] at hp
          cases hp
    refine q p (ns.take m) _ (k1.trans (same_new hp _).keep) (c1.same (same_new hp _)) hpH upd_same ((List.take_sublist _ _).trans ?_) (by rw [List.length_take]; exact Nat.min_le_left _ _)
    have := sub
    rw [List.take_of_length_le (by rw [List.length_map]; exact Nat.le_refl _)] at this
    exact this
end
end Vt


set_option Elab.async false
set_option linter.all false
set_option maxRecDepth 100000
set_option maxHeartbeats 4000000

namespace Vt
open PySem PySem.Spec PyProof.Rows L2 TL
theorem yes_of {σ : L2.St} {H : Hp} {Q : Bool → Hp → Prop} (h : Q true H) : tYes σ H Q := h
/-- what is drawn ahead of a tree: numbers of variables and of tails, and the names for each tail -/
structure Wo where
  first : Nat
  step : Nat
  one : List Str
  two : List Str
  three : List Str
def Wo.nr (W : Wo) (k : Nat) : Nat := (W.first + W.step * k) % 1000
structure Wo.Ok (W : Wo) : Prop where
  st : W.step = 1 ∨ W.step = 7 ∨ W.step = 333 ∨ W.step = 997
  s1 : W.one.Sublist menu14 ∧ W.one.length ≤ 3
  s2 : W.two.Sublist menu14 ∧ W.two.length ≤ 3
  s3 : W.three.Sublist menu14 ∧ W.three.length ≤ 3
theorem Wo.Ok.inj {W : Wo} (o : W.Ok) {j k : Nat} (hj : j < 7) (hk : k < 7) (e : W.nr j = W.nr k) : j = k := by
  unfold Wo.nr at e
  rcases o.st with h | h | h | h <;> rw [h] at e <;> omega
def WoR (H : Hp) (d : Addr) (W : Wo) : Prop := ∃ (va ta la lb lc : Addr), H d = some (.dK [(.inr "vars", .ref va), (.inr "tails", .ref ta)]) ∧ H va = some (.lst ((List.range 4).map fun k => V.int (W.nr k : Nat))) ∧
  H ta = some (.dK [(.inl (W.nr 4 : Nat), .ref la), (.inl (W.nr 5 : Nat), .ref lb), (.inl (W.nr 6 : Nat), .ref lc)]) ∧ H la = some (.lst (W.one.map V.str)) ∧ H lb = some (.lst (W.two.map V.str)) ∧ H lc = some (.lst (W.three.map V.str))
def spWorld (K : PySem.W.Frag) : Sp := fun vs H Q _ => ∃ (s : Addr), vs = [.ref s] ∧ Src H s ∧
  ∀ (d : Addr) (H' : Hp) (W : Wo), Keep s H H' → Src H' s → W.Ok → WoR H' d W → Q (.ref d) H'
abbrev s_law_world : Stmt := topS 51
abbrev N_law_world : List Str := ["source", "first", "step", "numbers", "k", "number"]
theorem sc_law_world : FnScope N_law_world ["source"] (defScope s_law_world) := ⟨rfl, rfl, rfl, by decide +kernel, rfl, by decide +kernel, by decide +kernel⟩
section
variable {P : Program} {w : World} {K : PySem.W.Frag} {mg : Str → Option Value} {base : Heap}
theorem ok_world (S : Stands K mg "_law_world" s_law_world ["source"]) (Z : Blt mg) (hdict : mg "dict" = none) (H_law_next : DefOk P w K mg base CX0 2 "_law_next" ["source", "many"] spNext) (H_law_one : DefOk P w K mg base CX0 2 "_law_one" ["source", "some"] (spOne K)) (H_law_labels : DefOk P w K mg base CX0 2 "_law_labels" ["source", "most"] (spLabels K)) : DefOk P w K mg base CX0 3 "_law_world" ["source"] (spWorld K) := by
  have z_dict : mg "dict" = none := hdict
  have z_int := Z.int
  have z_range := Z.range
  obtain ⟨f, fd, F, hm, hb⟩ := S
  obtain ⟨f_law_next, fd_law_next, G_law_next, m_law_next, k_law_next, b_law_next⟩ := H_law_next
  obtain ⟨f_law_one, fd_law_one, G_law_one, m_law_one, k_law_one, b_law_one⟩ := H_law_one
  obtain ⟨f_law_labels, fd_law_labels, G_law_labels, m_law_labels, k_law_labels, b_law_labels⟩ := H_law_labels
  refine ⟨f, fd, ?_, hm, F.kp, hb⟩
  have nd := sc_law_world.nd
  refine F.ok sc_law_world (fun vs H Q E h => ?_) (fun cdv A outer s0 H vs Q E hr h => ?_)
  · obtain ⟨s, rfl, _⟩ := h
    rfl
  obtain ⟨s, rfl, hs, q⟩ := h
  refine ⟨_, (pss_cons (ps_asg (pe_tup (pa_cons (pe_call G_law_next (hr.mono (by decide)) rfl m_law_next k_law_next b_law_next .nil pass0 (pa_cons (pv 0) (pa_cons pe_int pa_nil))) (pa_cons (pe_call G_law_one (hr.mono (by decide)) rfl m_law_one k_law_one b_law_one .nil pass0 (pa_cons (pv 0) (pa_cons (pe_lst (pa_cons pe_int (pa_cons pe_int (pa_cons pe_int (pa_cons pe_int pa_nil))))) pa_nil))) pa_nil))) (pg_tup rfl (pgs_cons (pg_name (i := 1) nd rfl (Or.inr rfl)) (pgs_cons (pg_name (i := 2) nd rfl (Or.inr rfl)) pgs_nil))))
      (pss_cons (ps_setLc (i := 3) (own := [("k", 4)]) (g := gName 4) (tt := tYes) rfl nd rfl rfl (sw_true rfl rfl rfl (by decide +kernel)) (pi_range1 (by rfl) z_range (pa_cons pe_int pa_nil)) (blkOk_by (N := N_law_world) (sc := defScope s_law_world) (by decide +kernel)) (fun _ _ _ _ _ => (pg_name (i := 4) nd rfl (Or.inl rfl))) (fun _ _ _ _ _ => pts_nil) (fun _ _ _ _ _ => (pe_op op_mod (pe_callTy call_int1 (by rfl) z_int (by decide +kernel) (pa_cons (pe_op op_add (pv 1) (pe_op op_mul (pv 2) (pv 4))) pa_nil)) pe_int)))
      (pss_one (ps_ret (pe_disp (pps_cons pe_str (pe_slice sl_list (pv 3) po_none (po_some pe_int)) (pps_cons pe_str (pe_callTy (call_dictP rfl) (by rfl) z_dict (by decide +kernel) (pa_cons (pe_lc (own := [("number", 5)]) (g := gName 5) (tt := tYes) rfl nd (pi_list (pe_slice sl_list (pv 3) (po_some pe_int) po_none)) (blkOk_by (N := N_law_world) (sc := defScope s_law_world) (by decide +kernel)) (fun _ _ _ _ _ => (pg_name (i := 5) nd rfl (Or.inl rfl))) (fun _ _ _ _ _ => pts_nil) (fun _ _ _ _ _ => (pe_tup (pa_cons (pv 5) (pa_cons (pe_call G_law_labels (hr.mono (by decide)) rfl m_law_labels k_law_labels b_law_labels .nil pass0 (pa_cons (pv 0) (pa_cons pe_int pa_nil))) pa_nil))))) pa_nil)) pps_nil)) rfl rfl (by simp) (by decide)))))), ?_⟩
  refine ⟨_, rfl, s, 1000, rfl, hs, by decide, by decide, fun f0 H1 f1 f2 k1 c1 => ?_⟩
  obtain ⟨fi, rfl⟩ := Int.eq_ofNat_of_zero_le f1
  refine ⟨_, rfl, sz (by simp), fun p0 hp0 => ?_⟩
  have S2 := same_new hp0 (.lst [V.int 1, V.int 7, V.int 333, V.int 997])
  refine ⟨s, p0, _, rfl, c1.same S2, SqL.of upd_same, .inl ?_, by decide, by decide, fun v H3 hv k3 c3 => ?_⟩
  · intro x y z e
    exact absurd (congrArg List.length e) (by simp)
  obtain ⟨st, hst, rfl⟩ : ∃ st : Nat, (st = 1 ∨ st = 7 ∨ st = 333 ∨ st = 997) ∧ v = .int (st : Nat) := by
    simp only [List.mem_cons, List.not_mem_nil, or_false] at hv
    rcases hv with rfl | rfl | rfl | rfl
    · exact ⟨1, by simp, rfl⟩
    · exact ⟨7, by simp, rfl⟩
    · exact ⟨333, by simp, rfl⟩
    · exact ⟨997, by simp, rfl⟩
  have kk := (k1.trans S2.keep).trans k3
  clear k1 S2 k3 hp0 c1 hv
  refine ⟨sz (by simp), fun pt hpt => ?_⟩
  refine ⟨pt, _, rfl, SqT.of upd_same, rfl, ?_⟩
  refine ⟨_, _, rfl, ⟨_, _, rfl, ⟨rfl, ?_⟩⟩⟩
  have kp := kk.trans (same_new hpt (.tup [V.int (fi : Nat), V.int (st : Nat)])).keep
  have cp := c3.same (same_new hpt (.tup [V.int (fi : Nat), V.int (st : Nat)]))
  change tSeq _ _ _ [some (.ref s), some (.int (fi : Nat)), some (.int (st : Nat)), none, none, none] (upd H3 pt (.tup [V.int (fi : Nat), V.int (st : Nat)]))
  generalize upd H3 pt (.tup [V.int (fi : Nat), V.int (st : Nat)]) = H4 at *
  clear kk c3 hpt
  refine ⟨_, rfl, by decide, by decide, fun D hD => ?_⟩
  have nD : H D = none := kp.none cp hD
  refine lc_range (lo := 0) (n := 7) (fun i X => Keep s H X ∧ Src X s ∧ X D = some (.lst ((List.range i).map fun k => V.int (((fi + st * k) % 1000 : Nat) : Int)))) ⟨kp.trans (same_new hD _).keep, cp.same (same_new hD _), upd_same⟩ ?_ ?_
  · rintro i X hi ⟨g1, g2, g3⟩
    refine gn ?_
    refine ⟨rfl, ?_⟩
    walk_at "rd"
    refine ⟨_, g3, sz (by rw [List.length_map, List.length_range]; omega), g1.mut nD, g2.wr (hs.ne nD), ?_⟩
    rw [upd_same, List.range_succ, List.map_append, Int.zero_add]
    rfl
  · rintro X ⟨g1, g2, g3⟩
    refine gn ?_
    dsimp only
    change tRet _ _ [some (.ref s), some (.int (fi : Nat)), some (.int (st : Nat)), some (.ref D), none, none] X
    intro pd hpd
    have eD : D ≠ pd := fun z => by rw [← z, g3] at hpd; cases hpd
    have S5 := same_new hpd (.dK [])
    have g4 := S5 _ _ g3
    have npd := g1.none g2 hpd
    have lp := @upd_same X pd (.dK [])
    have g1' := g1.same S5
    have g2' := g2.same S5
    generalize upd X pd (.dK []) = X5 at *
    refine ⟨_, rfl, _, rfl, D, _, rfl, SqL.of g4, fun va hva => ?_⟩
    have ecut : cutV ((List.range 7).map fun k => V.int (((fi + st * k) % 1000 : Nat) : Int)) none (some 4) = (List.range 4).map fun k => V.int (((fi + st * k) % 1000 : Nat) : Int) := rfl
    have ecut2 : cutV ((List.range 7).map fun k => V.int (((fi + st * k) % 1000 : Nat) : Int)) (some 4) none = [V.int (((fi + st * 4) % 1000 : Nat) : Int), V.int (((fi + st * 5) % 1000 : Nat) : Int), V.int (((fi + st * 6) % 1000 : Nat) : Int)] := rfl
    rw [ecut]
    have S6 := same_new hva (.lst ((List.range 4).map fun k => V.int (((fi + st * k) % 1000 : Nat) : Int)))
    have lva := @upd_same X5 va (.lst ((List.range 4).map fun k => V.int (((fi + st * k) % 1000 : Nat) : Int)))
    have lp6 := S6 _ _ lp
    have g6 := S6 _ _ g4
    have k6 := g1'.same S6
    have c6 := g2'.same S6
    clear g1 g2 g3 g1' g2' S5 hpd lp
    generalize upd X5 va (.lst ((List.range 4).map fun k => V.int (((fi + st * k) % 1000 : Nat) : Int))) = X6 at *
    refine ⟨_, rfl, _, rfl, D, _, rfl, SqL.of g6, fun pn hpn => ?_⟩
    rw [ecut2]
    have S7 := same_new hpn (.lst [V.int (((fi + st * 4) % 1000 : Nat) : Int), V.int (((fi + st * 5) % 1000 : Nat) : Int), V.int (((fi + st * 6) % 1000 : Nat) : Int)])
    have lpn := @upd_same X6 pn (.lst [V.int (((fi + st * 4) % 1000 : Nat) : Int), V.int (((fi + st * 5) % 1000 : Nat) : Int), V.int (((fi + st * 6) % 1000 : Nat) : Int)])
    have lva7 := S7 _ _ lva
    have lp7 := S7 _ _ lp6
    have k7 := k6.same S7
    have c7 := c6.same S7
    have npn := c6.ne hpn
    clear g6 k6 c6 lva lp6 S7 hpn S6 hva g4
    generalize upd X6 pn (.lst [V.int (((fi + st * 4) % 1000 : Nat) : Int), V.int (((fi + st * 5) % 1000 : Nat) : Int), V.int (((fi + st * 6) % 1000 : Nat) : Int)]) = X7 at *
    refine ⟨pn, rfl, ⟨_, SqL.of lpn⟩, fun D2 hD2 => ?_⟩
    have nD2 : X7 D2 = none := hD2
    have ns2 : ∀ b o, X7 b = some o → b ≠ D2 := fun b o e z => by rw [z, hD2] at e; cases e
    have hsne : ∀ b o, X7 b = some o → (∀ x y z, o ≠ .lst [V.int x, V.int y, V.int z]) → b ≠ s := fun b o e h z => by
      obtain ⟨x, y, z2, e2⟩ := c7
      rw [z, e2] at e
      injection e with e
      exact h x y z2 e.symm
    refine lc_list (K := K) (a := pn) (xs := [V.int (((fi + st * 4) % 1000 : Nat) : Int), V.int (((fi + st * 5) % 1000 : Nat) : Int), V.int (((fi + st * 6) % 1000 : Nat) : Int)])
      (fun i X => Keep s X7 X ∧ Src X s ∧ X pn = some (.lst [V.int (((fi + st * 4) % 1000 : Nat) : Int), V.int (((fi + st * 5) % 1000 : Nat) : Int), V.int (((fi + st * 6) % 1000 : Nat) : Int)]) ∧ ∃ q : List (Addr × Addr × List Str), q.length = i ∧ X D2 = some (.lst (q.map fun z => V.ref z.1)) ∧
        ∀ j z, q[j]? = some z → X z.1 = some (.tup [V.int (((fi + st * (4 + j)) % 1000 : Nat) : Int), .ref z.2.1]) ∧ X z.2.1 = some (.lst (z.2.2.map V.str)) ∧ z.2.2.Sublist menu14 ∧ z.2.2.length ≤ 3 ∧ z.1 ≠ D2 ∧ z.2.1 ≠ D2)
      ⟨(same_new hD2 _).keep, c7.same (same_new hD2 _), same_new hD2 _ _ _ lpn, [], rfl, upd_same, fun j z h => by simp at h⟩ (fun i X hi g => SqL.of g.2.2.1) ?_ ?_
    · rintro i x X hx ⟨k8, c8, e8, q8, ql, el, hq⟩
      have hi3 : i < 3 := (List.getElem?_eq_some_iff.mp hx).1
      have ex : x = V.int (((fi + st * (4 + i)) % 1000 : Nat) : Int) := by
        match i, hi3 with
        | 0, _ => injection hx with hx; exact hx.symm
        | 1, _ => injection hx with hx; exact hx.symm
        | 2, _ => injection hx with hx; exact hx.symm
      have sD2 := c7.ne hD2
      have nes : ∀ b o, X b = some o → (∀ x y z, o ≠ .lst [V.int x, V.int y, V.int z]) → b ≠ s := fun b o e h z => by
        obtain ⟨x, y, z2, e2⟩ := c8
        rw [z, e2] at e
        injection e with e
        exact h x y z2 e.symm
      refine gn ?_
      refine ⟨rfl, ?_⟩
      refine yes_of (ifTt rfl ?_)
      refine ⟨_, rfl, _, rfl, s, 3, rfl, c8, fun pl L X2 k9 c9 n9 e9 sub9 len9 => ?_⟩
      refine ⟨sz (by simp), fun pt hpt => ?_⟩
      have S9 := same_new hpt (.tup [x, V.ref pl])
      have elX := k9 D2 _ sD2 el
      have e8X := k9 pn _ npn e8
      have pnD : pn ≠ D2 := ns2 _ _ lpn
      have ptD : pt ≠ D2 := fun z => by rw [z, elX] at hpt; cases hpt
      have plD : pl ≠ D2 := fun z => by rw [z, el] at n9; cases n9
      refine ⟨q8.map fun z => V.ref z.1, S9 _ _ elX, sz (by rw [List.length_map]; omega), (((k8.trans k9).trans S9.keep)).mut nD2, (c9.same S9).wr sD2, ?_, q8 ++ [(pt, pl, L)], by simp [ql], ?_, fun j z hz => ?_⟩
      · rw [upd_ne pnD]
        exact S9 _ _ e8X
      · rw [upd_same, List.map_append]
        rfl
      · rcases Nat.lt_or_ge j q8.length with hj | hj
        · rw [List.getElem?_append_left hj] at hz
          obtain ⟨a1, a2, a3, a4, a5, a6⟩ := hq j z hz
          refine ⟨?_, ?_, a3, a4, a5, a6⟩
          · rw [upd_ne a5]
            exact S9 _ _ (k9 _ _ (nes _ _ a1 (fun x y z e => by cases e)) a1)
          · rw [upd_ne a6]
            refine S9 _ _ (k9 _ _ (nes _ _ a2 (fun x y z e => ?_)) a2)
            injection e with e
            exact no3_strs _ x y z e
        · rw [List.getElem?_append_right hj] at hz
          have hj0 : j - q8.length = 0 := by
            have := (List.getElem?_eq_some_iff.mp hz).1
            simp only [List.length_singleton] at this
            omega
          rw [hj0] at hz
          obtain rfl : (pt, pl, L) = z := by injection hz
          have eji : j = i := by omega
          subst eji
          refine ⟨?_, ?_, sub9, len9, ptD, plD⟩
          · rw [upd_ne ptD, ← ex]
            exact upd_same
          · rw [upd_ne plD]
            exact S9 _ _ e9
    · rintro X ⟨k8, c8, e8, q8, ql, el, hq⟩
      match q8, ql with
      | [z0, z1, z2], _ =>
        obtain ⟨a01, a02, a03, a04, _, _⟩ := hq 0 z0 rfl
        obtain ⟨a11, a12, a13, a14, _, _⟩ := hq 1 z1 rfl
        obtain ⟨a21, a22, a23, a24, _, _⟩ := hq 2 z2 rfl
        let W : Wo := ⟨fi, st, z0.2.2, z1.2.2, z2.2.2⟩
        have o : W.Ok := ⟨hst, ⟨a03, a04⟩, ⟨a13, a14⟩, ⟨a23, a24⟩⟩
        have d45 : ((W.nr 4 : Nat) : Int) ≠ (W.nr 5 : Nat) := fun e => by
          have := o.inj (j := 4) (k := 5) (by decide) (by decide) (Int.ofNat.inj e)
          omega
        have d46 : ((W.nr 4 : Nat) : Int) ≠ (W.nr 6 : Nat) := fun e => by
          have := o.inj (j := 4) (k := 6) (by decide) (by decide) (Int.ofNat.inj e)
          omega
        have d56 : ((W.nr 5 : Nat) : Int) ≠ (W.nr 6 : Nat) := fun e => by
          have := o.inj (j := 5) (k := 6) (by decide) (by decide) (Int.ofNat.inj e)
          omega
        let kvs : List (Key × V) := [(.inl (W.nr 4 : Nat), .ref z0.2.1), (.inl (W.nr 5 : Nat), .ref z1.2.1), (.inl (W.nr 6 : Nat), .ref z2.2.1)]
        have em : mergeK [] kvs = kvs := by
          simp [mergeK, kvs, putK, d45, d46, d56]
        refine ⟨D2, [z0.1, z1.1, z2.1], kvs, rfl, SqL.of el, .cons (SqT.of a01) (.cons (SqT.of a11) (.cons (SqT.of a21) .nil)), fun ta hta => ?_⟩
        rw [em]
        have S10 := same_new hta (.dK kvs)
        have lp8 : X pd = some (.dK []) := k8 _ _ (hsne _ _ lp7 fun x y z e => by cases e) lp7
        have lv8 := k8 _ _ (hsne _ _ lva7 fun x y z e => by injection e with e; exact absurd (congrArg List.length e) (by simp)) lva7
        refine ⟨S10 _ _ lp8, [(.inr "vars", .ref va), (.inr "tails", .ref ta)], rfl, by simp, ?_⟩
        have em2 : mergeK [] [((.inr "vars" : Key), V.ref va), (.inr "tails", .ref ta)] = [(.inr "vars", .ref va), (.inr "tails", .ref ta)] := rfl
        rw [em2]
        have nb : ∀ b o, upd X ta (.dK kvs) b = some o → (∀ kv, o ≠ .dK kv) → b ≠ pd := fun b o e h z => by
          rw [z, S10 _ _ lp8] at e
          injection e with e
          exact h _ e.symm
        have nt : ta ≠ pd := fun z => by rw [z, lp8] at hta; cases hta
        have kX := (k7.trans k8).same S10
        refine q pd _ W (kX.mut npd) ((c8.same S10).wr (hs.ne npd)) o ⟨va, ta, z0.2.1, z1.2.1, z2.2.1, upd_same, ?_, ?_, ?_, ?_, ?_⟩
        · rw [upd_ne (nb _ _ (S10 _ _ lv8) fun kv e => by cases e)]
          exact S10 _ _ lv8
        · rw [upd_ne nt]
          exact upd_same
        · rw [upd_ne (nb _ _ (S10 _ _ a02) fun kv e => by cases e)]
          exact S10 _ _ a02
        · rw [upd_ne (nb _ _ (S10 _ _ a12) fun kv e => by cases e)]
          exact S10 _ _ a12
        · rw [upd_ne (nb _ _ (S10 _ _ a22) fun kv e => by cases e)]
          exact S10 _ _ a22
end
end Vt


set_option Elab.async false
set_option linter.all false
set_option maxRecDepth 100000
set_option maxHeartbeats 4000000

namespace Vt
open PySem PySem.Spec PyProof.Rows L2 TL
/-! ### trees in the heap -/
def tailV : Option Nat → V
  | none => .non
  | some m => .int (m : Nat)
inductive Tr (K : PySem.W.Frag) (H : Hp) : V → Ty → Prop
  | var {a : Addr} {n : Nat} : SqT K H a [.str "var", .int (n : Nat)] → Tr K H (.ref a) (.node (.var n) [])
  | int {a : Addr} : SqT K H a [.str "int"] → Tr K H (.ref a) (.node .int [])
  | bool {a : Addr} : SqT K H a [.str "bool"] → Tr K H (.ref a) (.node .bool [])
  | fn {a : Addr} {u v : V} {s t : Ty} : SqT K H a [.str "fun", u, v] → Tr K H u s → Tr K H v t → Tr K H (.ref a) (.node .fn [s, t])
  | tup {a l : Addr} {us : List V} {ts : List Ty} : SqT K H a [.str "tuple", .ref l] → SqL K H l us → us.length = ts.length → (∀ (i : Nat) (u : V) (t : Ty), us[i]? = some u → ts[i]? = some t → Tr K H u t) → Tr K H (.ref a) (.node .tup ts)
  | rcd {a l : Addr} {bs : List Addr} {us : List V} {ls : List Str} {ts : List Ty} {m : Option Nat} : SqT K H a [.str "record", .ref l, tailV m] → SqL K H l (bs.map V.ref) → bs.length = ts.length → ls.length = ts.length → us.length = ts.length →
      (∀ (i : Nat) (b : Addr) (n : Str) (u : V), bs[i]? = some b → ls[i]? = some n → us[i]? = some u → SqT K H b [.str n, u]) → (∀ (i : Nat) (u : V) (t : Ty), us[i]? = some u → ts[i]? = some t → Tr K H u t) → Tr K H (.ref a) (.node (.rcd ls m) ts)
theorem Tr.ne_int {K : PySem.W.Frag} {H : Hp} {v : V} {t : Ty} (h : Tr K H v t) (i : Int) : v ≠ .int i := fun e => by
  rw [e] at h
  cases h
theorem Tr.keep {K : PySem.W.Frag} {s : Addr} {H H' : Hp} (k : Keep s H H') (hs : Src H s) {v : V} {t : Ty} (h : Tr K H v t) : Tr K H' v t := by
  induction h with
  | var h => exact .var (k.tup hs h)
  | int h => exact .int (k.tup hs h)
  | bool h => exact .bool (k.tup hs h)
  | fn h _ _ i j => exact .fn (k.tup hs h) i j
  | @tup a l xs ts h h2 l1 f i =>
    refine .tup (k.tup hs h) (k.seq hs (No3.of_ref fun v hv j e => ?_) h2) l1 i
    obtain ⟨n, hn, q⟩ := List.getElem_of_mem hv
    exact (f n v (ts[n]'(by omega)) (by rw [List.getElem?_eq_getElem hn, q]) (List.getElem?_eq_getElem (by omega))).ne_int j e
  | rcd h h2 l1 l2 l3 f g i =>
    refine .rcd (k.tup hs h) (k.seq hs (No3.of_ref fun v hv j e => ?_) h2) l1 l2 l3 (fun j b n u a1 a2 a3 => k.tup hs (f j b n u a1 a2 a3)) i
    obtain ⟨b, _, q⟩ := List.mem_map.mp hv
    rw [e] at q
    cases q
theorem Tr.same {K : PySem.W.Frag} {H H' : Hp} (k : Same H H') {v : V} {t : Ty} (h : Tr K H v t) : Tr K H' v t := by
  induction h with
  | var h => exact .var (Same.tupS k h)
  | int h => exact .int (Same.tupS k h)
  | bool h => exact .bool (Same.tupS k h)
  | fn h _ _ i j => exact .fn (Same.tupS k h) i j
  | tup h h2 l1 f i => exact .tup (Same.tupS k h) (k.seq h2) l1 i
  | rcd h h2 l1 l2 l3 f g i => exact .rcd (Same.tupS k h) (k.seq h2) l1 l2 l3 (fun j b n u a1 a2 a3 => Same.tupS k (f j b n u a1 a2 a3)) i
/-! ### trees as they are drawn -/
mutual
def Ty.deep : Ty → Nat
  | .node _ ks => 1 + Ty.deeps ks
def Ty.deeps : List Ty → Nat
  | [] => 0
  | t :: r => max t.deep (Ty.deeps r)
end
/-- a head that fits the world -/
def Wo.fits (W : Wo) : Hy → Prop
  | .var n => n = W.nr 0 ∨ n = W.nr 1 ∨ n = W.nr 2 ∨ n = W.nr 3
  | .rcd ls none => ls.Sublist menu14 ∧ ls.length ≤ 4
  | .rcd ls (some m) => (m = W.nr 4 ∧ ls = W.one) ∨ (m = W.nr 5 ∧ ls = W.two) ∨ (m = W.nr 6 ∧ ls = W.three)
  | _ => True
inductive Dr (W : Wo) : Ty → Prop
  | mk {h : Hy} {ks : List Ty} : W.fits h → (∀ t ∈ ks, Dr W t) → Dr W (.node h ks)
/-- how deep a tree is as data -/
def Hy.dw : Hy → Nat
  | .tup => 2
  | .rcd _ _ => 3
  | _ => 1
mutual
def Ty.dd : Ty → Nat
  | .node h ks => h.dw + Ty.dds ks
def Ty.dds : List Ty → Nat
  | [] => 1
  | t :: r => max t.dd (Ty.dds r)
end
theorem ty_dds_le {m : Nat} (h1 : 1 ≤ m) : ∀ {ts : List Ty}, (∀ t ∈ ts, t.dd ≤ m) → Ty.dds ts ≤ m
  | [], _ => by simpa [Ty.dds] using h1
  | t :: r, h => by
    have h3 := h t (by simp)
    have h2 := ty_dds_le h1 (ts := r) fun u mu => h u (List.mem_cons_of_mem _ mu)
    simp only [Ty.dds]
    omega
def ddR (r : Nat) : Nat := if r ≤ 2 then 2 else r + 2
theorem ddR_pos (r : Nat) : 1 ≤ ddR r := by
  unfold ddR
  split <;> omega
theorem ddR_fn {r m : Nat} (hr : 2 < r) (hm : m < r) : 1 + ddR m ≤ ddR r := by
  unfold ddR
  split <;> split <;> omega
theorem ddR_half {r m : Nat} (hr : 2 < r) (hm : 2 * m ≤ r) : 3 + ddR m ≤ ddR r := by
  unfold ddR
  split <;> split <;> omega
/-- the most nodes and levels for a room -/
def szR (r : Nat) : Nat := if r ≤ 2 then 1 else 3 * r - 1
def dpR (r : Nat) : Nat := if r ≤ 2 then 1 else r - 1
theorem szR_fn {r m : Nat} (hr : 2 < r) (hm : m < r) : 1 + (szR m + szR (r - m - 1)) ≤ szR r := by
  unfold szR
  split <;> split <;> split <;> omega
theorem dpR_lt {r m : Nat} (hr : 2 < r) (hm : m < r) : 1 + dpR m ≤ dpR r := by
  unfold dpR
  split <;> split <;> omega
theorem szR_many {r n q : Nat} (hr : 2 < r) (hn : n ≤ 6) (h2 : n * q ≤ r) (h3 : n ≠ 1 ∨ 2 * q ≤ r) : 1 + n * szR q ≤ szR r := by
  have er : szR r = 3 * r - 1 := by
    unfold szR
    rw [if_neg (by omega)]
  rw [er]
  by_cases hq : q ≤ 2
  · rw [show szR q = 1 from by unfold szR; rw [if_pos hq]]
    omega
  · rw [show szR q = 3 * q - 1 from by unfold szR; rw [if_neg hq]]
    rcases (by omega : n = 0 ∨ n = 1 ∨ n = 2 ∨ n = 3 ∨ n = 4 ∨ n = 5 ∨ n = 6) with rfl | rfl | rfl | rfl | rfl | rfl | rfl <;> omega
end Vt


set_option Elab.async false
set_option linter.all false
set_option maxRecDepth 100000
set_option maxHeartbeats 4000000

namespace Vt
open PySem PySem.Spec PyProof.Rows L2 TL
theorem call_len_K {X : Cx} {K : PySem.W.Frag} (hK : X.K = K) : CallR X (.builtin "len") (fun xs H Q => ∃ p ys, xs = [V.ref p] ∧ (SqL K H p ys ∨ SqT K H p ys) ∧ Q (.int (ys.length : Nat)) H) := by
  subst hK
  exact call_len_seq
theorem noSl_s {x : Str} {p : Pos} : NoSl (.Constant (.str x) 0 p) := fun ov iv => rfl
theorem asg_uni14 {te : TE} {rest : TS} {D : Ends} {σ : L2.St} {H : Hp} {i : Nat} {R : V → Hp → Prop} (h1 : ∀ Q : VK, (∀ x Z, R x Z → Q x Z) → te σ H Q) (h2 : ∀ x Z, R x Z → rest D (σ.set i (some x)) Z) : tSeq (tAsg te (gName i)) rest D σ H := h1 _ fun x Z r => h2 x Z r
theorem WoR.keep {s d : Addr} {H H' : Hp} {W : Wo} (k : Keep s H H') (hs : Src H s) (h : WoR H d W) : WoR H' d W := by
  obtain ⟨va, ta, la, lb, lc, w1, w2, w3, w4, w5, w6⟩ := h
  have ne : ∀ b o, H b = some o → (∀ x y z, o ≠ .lst [V.int x, V.int y, V.int z]) → b ≠ s := fun b o e h z => by
    obtain ⟨x, y, z2, e2⟩ := hs
    rw [z, e2] at e
    injection e with e
    exact h x y z2 e.symm
  have st : ∀ (b : Addr) (l : List Str), H b = some (.lst (l.map V.str)) → H' b = some (.lst (l.map V.str)) := fun b l e => k b _ (ne b _ e fun x y z q => by injection q with q; exact no3_strs l x y z q) e
  exact ⟨va, ta, la, lb, lc, k _ _ (ne _ _ w1 fun x y z q => by cases q) w1, k _ _ (ne _ _ w2 fun x y z q => by injection q with q; exact absurd (congrArg List.length q) (by simp)) w2, k _ _ (ne _ _ w3 fun x y z q => by cases q) w3, st _ _ w4, st _ _ w5, st _ _ w6⟩
theorem nxt_seq {t u : TS} {D : Ends} {r : VK} {b c : L2.St → Hp → Prop} {σ : L2.St} {H : Hp} (h : t { D with nx := u D } σ H) : tNext { nx := tSeq t u D, rt := r, bk := b, ct := c } σ H := h
theorem vt_tails {u v : V} : valV [((.inr "vars" : Key), u), (.inr "tails", v)] (.inr "tails") = some v := by
  rw [valV_neg (fun z => absurd (Sum.inr.inj z) (by decide +kernel)), valV_pos rfl]
theorem WoR.tails {Z : Hp} {d va ta : Addr} (w1 : Z d = some (.dK [(.inr "vars", .ref va), (.inr "tails", .ref ta)])) : DGet Z d (.str "tails") (some (.ref ta)) := by
  have z := DGet.k (k := .inr "tails") w1
  rw [vt_tails] at z
  exact z
instance {c : Nat} : Decidable (low c) := by unfold low; infer_instance
instance {l : Str} : Decidable (isLab l) := by unfold isLab; infer_instance
theorem menu_lab : ∀ l ∈ menu14, isLab l := by decide +kernel
theorem menu_name : ∀ l ∈ menu14, isName l := by decide +kernel
theorem menu_asc : menu14.Pairwise strLt := by
  unfold strLt menu14
  decide +kernel
theorem Wo.Ok.sub {W : Wo} (o : W.Ok) {ls : List Str} {m : Option Nat} (f : W.fits (.rcd ls m)) : ls.Sublist menu14 ∧ ls.length ≤ 4 := by
  cases m with
  | none => exact f
  | some m =>
    rcases f with ⟨_, e⟩ | ⟨_, e⟩ | ⟨_, e⟩
    · rw [e]; exact ⟨o.s1.1, by have := o.s1.2; omega⟩
    · rw [e]; exact ⟨o.s2.1, by have := o.s2.2; omega⟩
    · rw [e]; exact ⟨o.s3.1, by have := o.s3.2; omega⟩
theorem dget_tail {W : Wo} (o : W.Ok) {Z : Hp} {ta la lb lc : Addr} (w3 : Z ta = some (.dK [(.inl (W.nr 4 : Nat), .ref la), (.inl (W.nr 5 : Nat), .ref lb), (.inl (W.nr 6 : Nat), .ref lc)])) :
    DGet Z ta (.int (W.nr 4 : Nat)) (some (.ref la)) ∧ DGet Z ta (.int (W.nr 5 : Nat)) (some (.ref lb)) ∧ DGet Z ta (.int (W.nr 6 : Nat)) (some (.ref lc)) := by
  have ne : ∀ {i j : Nat}, i < 7 → j < 7 → i ≠ j → ¬ ((Sum.inl ((W.nr i : Nat) : Int) : Key) = Sum.inl ((W.nr j : Nat) : Int)) := fun hi hj h z => h (o.inj hi hj (by injection z with z; omega))
  have z4 := DGet.k (k := .inl ((W.nr 4 : Nat) : Int)) w3
  have z5 := DGet.k (k := .inl ((W.nr 5 : Nat) : Int)) w3
  have z6 := DGet.k (k := .inl ((W.nr 6 : Nat) : Int)) w3
  rw [valV_pos rfl] at z4
  rw [valV_neg (ne (by decide) (by decide) (by decide)), valV_pos rfl] at z5
  rw [valV_neg (ne (by decide) (by decide) (by decide)), valV_neg (ne (by decide) (by decide) (by decide)), valV_pos rfl] at z6
  exact ⟨z4, z5, z6⟩
theorem get_map {α β : Type} {f : α → β} {xs : List α} {i : Nat} {y : β} (h : (xs.map f)[i]? = some y) : ∃ x, x ∈ xs ∧ xs[i]? = some x ∧ y = f x := by
  rw [List.getElem?_map] at h
  cases e : xs[i]? with
  | none => rw [e] at h; cases h
  | some x => rw [e] at h; exact ⟨x, List.mem_of_getElem? e, rfl, (Option.some.inj h).symm⟩
theorem no3_refs {bs : List Addr} : No3 (bs.map V.ref) := No3.of_ref fun v hv i e => by
  obtain ⟨b, _, q⟩ := List.mem_map.mp hv
  rw [e] at q
  cases q
/-- one more at the end -/
theorem getSnoc {α : Type} {xs : List α} {x y : α} {j : Nat} (h : (xs ++ [x])[j]? = some y) : (j < xs.length ∧ xs[j]? = some y) ∨ (j = xs.length ∧ x = y) := by
  by_cases q : j < xs.length
  · rw [List.getElem?_append_left q] at h
    exact .inl ⟨q, h⟩
  · rw [List.getElem?_append_right (by omega)] at h
    have hj : j = xs.length := by
      have := (List.getElem?_eq_some_iff.mp h).1
      simp at this
      omega
    subst hj
    simp at h
    exact .inr ⟨rfl, h⟩
structure Dn (W : Wo) (r : Nat) (t : Ty) : Prop where
  dr : Dr W t
  wy : Wy t
  sz : t.size ≤ szR r
  dp : t.deep ≤ dpR r
  dd : t.dd ≤ ddR r
theorem dn_leaf {W : Wo} {r : Nat} {h : Hy} (f : W.fits h) (o : okHy h 0) (hw : h.dw = 1) : Dn W r (.node h []) := by
  refine ⟨.mk f (fun t m => by cases m), .mk o (fun t m => by cases m), ?_, ?_, ?_⟩
  · simp only [Ty.size, Ty.sizes, szR]
    split <;> omega
  · simp only [Ty.deep, Ty.deeps, dpR]
    split <;> omega
  · simp only [Ty.dd, Ty.dds, hw, ddR]
    split <;> omega
theorem grow14 {s D : Addr} {G X X' : Hp} {L : HO} (g1 : Same G X) (g2 : G D = none) (hs : Src G s) (k : Keep s X X') (hs' : Src X' s) :
    Same (off D X') (upd X' D L) ∧ off D X' D = none ∧ Keep s G (off D X') ∧ Src (off D X') s :=
  ⟨off_same.wr off_at, off_at, Keep.off g1 k g2, hs'.off (hs.ne g2).symm⟩
theorem ty_sizes_le {m : Nat} : ∀ {ts : List Ty}, (∀ t ∈ ts, t.size ≤ m) → Ty.sizes ts ≤ ts.length * m
  | [], _ => by simp [Ty.sizes]
  | t :: r, h => by
    have h1 := h t (by simp)
    have h2 := ty_sizes_le (ts := r) fun u mu => h u (List.mem_cons_of_mem _ mu)
    simp only [Ty.sizes, List.length_cons, Nat.add_mul]
    omega
theorem ty_deeps_le {m : Nat} : ∀ {ts : List Ty}, (∀ t ∈ ts, t.deep ≤ m) → Ty.deeps ts ≤ m
  | [], _ => by simp [Ty.deeps]
  | t :: r, h => by
    have h1 := h t (by simp)
    have h2 := ty_deeps_le (ts := r) fun u mu => h u (List.mem_cons_of_mem _ mu)
    simp only [Ty.deeps]
    omega
/-- a tree drawn with so much room, below n -/
def spTree (K : PySem.W.Frag) (n : Nat) : Sp := fun vs H Q _ => ∃ (s d : Addr) (r : Nat) (W : Wo), vs = [.ref s, .int (r : Nat), .ref d] ∧ Src H s ∧ W.Ok ∧ WoR H d W ∧ r < n ∧ r ≤ 60 ∧
  ∀ (v : V) (H' : Hp) (t : Ty), Keep s H H' → Src H' s → Tr K (nw H H') v t → Dn W r t → Q v H'
abbrev s_law_tree : Stmt := topS 52
abbrev N_law_tree : List Str := ["source", "room", "world", "way", "many", "tail", "names", "k", "name"]
theorem sc_law_tree : FnScope N_law_tree ["source", "room", "world"] (defScope s_law_tree) := ⟨rfl, rfl, rfl, by decide +kernel, rfl, by decide +kernel, by decide +kernel⟩
section
variable {P : Program} {w : World} {K : PySem.W.Frag} {mg : Str → Option Value} {base : Heap}
theorem ok_tree {n : Nat} (S : Stands K mg "_law_tree" s_law_tree ["source", "room", "world"]) (Z : Blt mg) (H_law_next : DefOk P w K mg base CX0 1 "_law_next" ["source", "many"] spNext) (H_law_one : DefOk P w K mg base CX0 2 "_law_one" ["source", "some"] (spOne K)) (H_law_labels : DefOk P w K mg base CX0 2 "_law_labels" ["source", "most"] (spLabels K))
    (H_law_tree : DefOk P w K mg base CX0 (n + 3) "_law_tree" ["source", "room", "world"] (spTree K n)) : DefOk P w K mg base CX0 (n + 4) "_law_tree" ["source", "room", "world"] (spTree K (n + 1)) := by
  have z_len := Z.len
  have z_list := Z.list
  have z_range := Z.range
  obtain ⟨f, fd, F, hm, hb⟩ := S
  obtain ⟨f_law_next, fd_law_next, G_law_next, m_law_next, k_law_next, b_law_next⟩ := H_law_next
  obtain ⟨f_law_one, fd_law_one, G_law_one, m_law_one, k_law_one, b_law_one⟩ := H_law_one
  obtain ⟨f_law_labels, fd_law_labels, G_law_labels, m_law_labels, k_law_labels, b_law_labels⟩ := H_law_labels
  obtain ⟨f_law_tree, fd_law_tree, G_law_tree, m_law_tree, k_law_tree, b_law_tree⟩ := H_law_tree
  refine ⟨f, fd, ?_, hm, F.kp, hb⟩
  have nd := sc_law_tree.nd
  refine F.ok sc_law_tree (fun vs H Q E h => ?_) (fun cdv A outer s0 H vs Q E hr h => ?_)
  · obtain ⟨s, d, r, W, rfl, _⟩ := h
    rfl
  obtain ⟨s, d, r, W, rfl, hs, o, hd, hr1, hr2, q⟩ := h
  have hu1 : (A.deeper (envOfC "_law_tree" (defScope s_law_tree) s0.heap.objs.size f cdv)).units + 1 < cLine := by have := hr.un; omega
  refine ⟨_, (pss_cons (ps_set (i := 3) nd rfl (Or.inl rfl) (pe_ifExp (pt_cmpR op_gt (pv 1) pe_int (nomark _)) (pe_op op_add pe_int (pe_call G_law_next (hr.mono (by omega)) rfl m_law_next k_law_next b_law_next .nil pass0 (pa_cons (pv 0) (pa_cons pe_int pa_nil)))) (pe_call G_law_next (hr.mono (by omega)) rfl m_law_next k_law_next b_law_next .nil pass0 (pa_cons (pv 0) (pa_cons pe_int pa_nil)))))
      (pss_cons (ps_if (pt_cmpR op_lt (pv 3) pe_int (nomark _)) (pss_one (ps_ret (pe_tup (pa_cons pe_str (pa_cons (pe_ix ix_list (pe_dget hu1 (pv 2) pe_str noSl_s) (pv 3) (fun _ _ => rfl)) pa_nil))))) pss_nil)
      (pss_cons (ps_if (pt_cmpR op_lt (pv 3) pe_int (nomark _)) (pss_one (ps_ret (pe_ix ix_list (pe_lst (pa_cons (pe_tup (pa_cons pe_str pa_nil)) (pa_cons (pe_tup (pa_cons pe_str pa_nil)) (pa_cons (pe_tup (pa_cons pe_str (pa_cons (pe_ix ix_list (pe_dget hu1 (pv 2) pe_str noSl_s) pe_int (fun _ _ => rfl)) pa_nil))) pa_nil)))) (pe_op op_sub (pv 3) pe_int) (fun _ _ => rfl)))) pss_nil)
      (pss_cons (ps_if (pt_cmpR op_lt (pv 3) pe_int (nomark _)) (pss_cons (ps_set (i := 4) nd rfl (Or.inr rfl) (pe_call G_law_next (hr.mono (by omega)) rfl m_law_next k_law_next b_law_next .nil pass0 (pa_cons (pv 0) (pa_cons (pv 1) pa_nil))))
      (pss_one (ps_ret (pe_tup (pa_cons pe_str (pa_cons (pe_call G_law_tree (hr.mono (by omega)) rfl m_law_tree k_law_tree b_law_tree .nil pass0 (pa_cons (pv 0) (pa_cons (pv 4) (pa_cons (pv 2) pa_nil)))) (pa_cons (pe_call G_law_tree (hr.mono (by omega)) rfl m_law_tree k_law_tree b_law_tree .nil pass0 (pa_cons (pv 0) (pa_cons (pe_op op_sub (pe_op op_sub (pv 1) (pv 4)) pe_int) (pa_cons (pv 2) pa_nil)))) pa_nil))))))) pss_nil)
      (pss_cons (ps_if (pt_cmpR op_lt (pv 3) pe_int (nomark _)) (pss_cons (ps_set (i := 4) nd rfl (Or.inr rfl) (pe_op op_add pe_int (pe_call G_law_next (hr.mono (by omega)) rfl m_law_next k_law_next b_law_next .nil pass0 (pa_cons (pv 0) (pa_cons pe_int pa_nil)))))
      (pss_one (ps_ret (pe_tup (pa_cons pe_str (pa_cons (pe_lc (own := [("k", 7)]) (g := gName 7) (tt := tYes) rfl nd (pi_range1 (by rfl) z_range (pa_cons (pv 4) pa_nil)) (blkOk_by (N := N_law_tree) (sc := defScope s_law_tree) (by decide +kernel)) (fun _ _ _ _ _ => (pg_name (i := 7) nd rfl (Or.inl rfl))) (fun _ _ _ _ _ => pts_nil) (fun _ _ _ _ _ => (pe_call G_law_tree (hr.mono (by omega)) rfl m_law_tree k_law_tree b_law_tree .nil pass0 (pa_cons (pv 0) (pa_cons (pe_op op_fdiv (pv 1) (pv 4)) (pa_cons (pv 2) pa_nil)))))) pa_nil)))))) pss_nil)
      (pss_cons (ps_set (i := 5) nd rfl (Or.inl rfl) (pe_ifExp (pt_cmpR op_eq (pv 3) pe_int (nomark _)) pe_non (pe_call G_law_one (hr.mono (by omega)) rfl m_law_one k_law_one b_law_one .nil pass0 (pa_cons (pv 0) (pa_cons (pe_callTy (call_listD rfl) (by rfl) z_list (by decide +kernel) (pa_cons (pe_dget hu1 (pv 2) pe_str noSl_s) pa_nil)) pa_nil)))))
      (pss_cons (ps_set (i := 6) nd rfl (Or.inr rfl) (pe_ifExp (pt_cmpR op_isN (pv 5) pe_non (nomark _)) (pe_call G_law_labels (hr.mono (by omega)) rfl m_law_labels k_law_labels b_law_labels .nil pass0 (pa_cons (pv 0) (pa_cons pe_int pa_nil))) (pe_dget hu1 (pe_dget hu1 (pv 2) pe_str noSl_s) (pv 5) (fun _ _ => rfl))))
      (pss_one (ps_ret (pe_tup (pa_cons pe_str (pa_cons (pe_lc (own := [("name", 8)]) (g := gName 8) (tt := tYes) rfl nd (pi_list (pv 6)) (blkOk_by (N := N_law_tree) (sc := defScope s_law_tree) (by decide +kernel)) (fun _ _ _ _ _ => (pg_name (i := 8) nd rfl (Or.inl rfl))) (fun _ _ _ _ _ => pts_nil) (fun _ _ _ _ _ => (pe_tup (pa_cons (pv 8) (pa_cons (pe_call G_law_tree (hr.mono (by omega)) rfl m_law_tree k_law_tree b_law_tree .nil pass0 (pa_cons (pv 0) (pa_cons (pe_op op_fdiv (pv 1) (pe_op op_add (pe_callB (call_len_K (K := K) rfl) (by rfl) z_len (by decide +kernel) (pa_cons (pv 6) pa_nil)) pe_int)) (pa_cons (pv 2) pa_nil)))) pa_nil))))) (pa_cons (pv 5) pa_nil))))))))))))), ?_⟩
  have hd' := hd
  obtain ⟨va, ta, la, lb, lc, w1, w2, w3, w4, w5, w6⟩ := hd'
  refine asg_uni14 (R := fun x Z => ∃ i : Nat, x = .int (i : Nat) ∧ Keep s H Z ∧ Src Z s ∧ i < 14 ∧ (r ≤ 2 → i < 6) ∧ (2 < r → 5 ≤ i)) (fun Q2 hq => ?_) ?_
  · refine ⟨_, rfl, _, _, rfl, rfl, _, rfl, ?_⟩
    by_cases c : 2 < r
    · refine ifTt (decide_eq_true (by omega)) ?_
      refine ⟨_, rfl, s, 9, rfl, hs, by decide, by decide, fun i X i0 i1 k c2 => ?_⟩
      obtain ⟨j, rfl⟩ := Int.eq_ofNat_of_zero_le i0
      exact ⟨_, _, rfl, rfl, hq _ _ ⟨5 + j, rfl, k, c2, by omega, by omega, by omega⟩⟩
    · refine ifFf (decide_eq_false (by omega)) ?_
      refine ⟨_, rfl, s, 6, rfl, hs, by decide, by decide, fun i X i0 i1 k c2 => ?_⟩
      obtain ⟨j, rfl⟩ := Int.eq_ofNat_of_zero_le i0
      exact hq _ _ ⟨j, rfl, k, c2, by omega, by omega, by omega⟩
  · rintro x Z ⟨i, rfl, kZ, cZ, i14, i6, i5⟩
    have hdZ := hd.keep kZ hs
    obtain ⟨va, ta, la, lb, lc, w1, w2, w3, w4, w5, w6⟩ := hdZ
    have dv : DGet Z d (.str "vars") (some (.ref va)) := by
      have z := DGet.k (k := .inr "vars") w1
      have e : valV [((.inr "vars" : Key), V.ref va), (.inr "tails", .ref ta)] (.inr "vars") = some (.ref va) := by simp [valV]
      rw [e] at z
      exact z
    refine ⟨_, rfl, _, _, rfl, rfl, _, rfl, ?_⟩
    by_cases c4 : i < 4
    · refine ifTt (decide_eq_true (by omega)) ?_
      refine ⟨_, rfl, d, .ref va, rfl, dv, _, rfl, ?_⟩
      have at4 : atI ((List.range 4).map fun k => V.int (W.nr k : Nat)) ((i : Nat) : Int) = some (.int (W.nr i : Nat)) := atI_nat (by rw [List.getElem?_map, List.getElem?_range c4]; rfl)
      refine ⟨va, _, _, _, rfl, rfl, SqL.of w2, at4, ?_⟩
      refine ⟨sz (by simp), fun p hp => ?_⟩
      have hpH : H p = none := kZ.none cZ hp
      refine q _ _ (.node (.var (W.nr i)) []) (kZ.trans (same_new hp _).keep) (cZ.same (same_new hp _)) (.var (SqT.of (nw_at hpH))) (dn_leaf ?_ rfl rfl)
      · show W.nr i = W.nr 0 ∨ W.nr i = W.nr 1 ∨ W.nr i = W.nr 2 ∨ W.nr i = W.nr 3
        rcases (by omega : i = 0 ∨ i = 1 ∨ i = 2 ∨ i = 3) with rfl | rfl | rfl | rfl <;> simp
    · refine ifFf (decide_eq_false (by omega)) ?_
      refine ⟨_, rfl, _, _, rfl, rfl, _, rfl, ?_⟩
      by_cases c7 : i < 7
      · refine ifTt (decide_eq_true (by omega)) ?_
        refine ⟨sz (by simp), fun p0 h0 => ?_⟩
        have n0 : H p0 = none := kZ.none cZ h0
        have S0 := same_new h0 (.tup [V.str "int"])
        have l0 := @upd_same Z p0 (.tup [V.str "int"])
        generalize upd Z p0 (.tup [V.str "int"]) = Z0 at *
        refine ⟨sz (by simp), fun p1 h1 => ?_⟩
        have n1 : H p1 = none := (kZ.same S0).none (cZ.same S0) h1
        have S1 := same_new h1 (.tup [V.str "bool"])
        have l1 := @upd_same Z0 p1 (.tup [V.str "bool"])
        generalize upd Z0 p1 (.tup [V.str "bool"]) = Z1 at *
        have S01 := S0.trans S1
        have dv1 : DGet Z1 d (.str "vars") (some (.ref va)) := by
          have z := DGet.k (k := .inr "vars") (S01 _ _ w1)
          have e : valV [((.inr "vars" : Key), V.ref va), (.inr "tails", .ref ta)] (.inr "vars") = some (.ref va) := by simp [valV]
          rw [e] at z
          exact z
        refine ⟨_, rfl, d, .ref va, rfl, dv1, va, _, _, _, rfl, rfl, SqL.of (S01 _ _ w2), atI_nat (j := 0) rfl, ?_⟩
        refine ⟨sz (by simp), fun p2 h2 => ?_⟩
        have n2 : H p2 = none := (kZ.same S01).none (cZ.same S01) h2
        have S2 := same_new h2 (.tup [V.str "var", V.int (W.nr 0 : Nat)])
        have l2 := @upd_same Z1 p2 (.tup [V.str "var", V.int (W.nr 0 : Nat)])
        refine ⟨sz (by simp), fun p3 h3 => ?_⟩
        have S3 := same_new h3 (.lst [V.ref p0, V.ref p1, V.ref p2])
        have l3 := @upd_same (upd Z1 p2 (.tup [V.str "var", V.int (W.nr 0 : Nat)])) p3 (.lst [V.ref p0, V.ref p1, V.ref p2])
        generalize upd (upd Z1 p2 (.tup [V.str "var", V.int (W.nr 0 : Nat)])) p3 (.lst [V.ref p0, V.ref p1, V.ref p2]) = Z3 at *
        have S23 := S2.trans S3
        have St := S01.trans S23
        have leaf : ∀ (p : Addr) (t : Ty), Tr K (nw H Z3) (.ref p) t → Dn W r t → Q (.ref p) Z3 := fun p t a b => q _ _ t (kZ.same St) (cZ.same St) a b
        rcases (by omega : i = 4 ∨ i = 5 ∨ i = 6) with rfl | rfl | rfl
        · exact ⟨_, rfl, _, _, rfl, rfl, p3, _, _, _, rfl, rfl, SqL.of l3, atI_nat (j := 0) rfl, leaf p0 (.node .int []) (.int (SqT.of ((nw_of n0).trans ((S1.trans S23) _ _ l0)))) (dn_leaf trivial rfl rfl)⟩
        · exact ⟨_, rfl, _, _, rfl, rfl, p3, _, _, _, rfl, rfl, SqL.of l3, atI_nat (j := 1) rfl, leaf p1 (.node .bool []) (.bool (SqT.of ((nw_of n1).trans (S23 _ _ l1)))) (dn_leaf trivial rfl rfl)⟩
        · exact ⟨_, rfl, _, _, rfl, rfl, p3, _, _, _, rfl, rfl, SqL.of l3, atI_nat (j := 2) rfl, leaf p2 (.node (.var (W.nr 0)) []) (.var (SqT.of ((nw_of n2).trans (S3 _ _ l2)))) (dn_leaf (.inl rfl) rfl rfl)⟩
      · refine ifFf (decide_eq_false (by omega)) ?_
        have r2 : 2 < r := by omega
        refine ⟨_, rfl, _, _, rfl, rfl, _, rfl, ?_⟩
        by_cases c10 : i < 10
        · refine ifTt (decide_eq_true (by omega)) ?_
          refine ⟨_, rfl, _, rfl, s, _, rfl, cZ, by omega, by omega, fun m0 X1 m1 m2 k1 c1 => ?_⟩
          obtain ⟨m, rfl⟩ := Int.eq_ofNat_of_zero_le m1
          have hm : m < r := by omega
          have kX1 := kZ.trans k1
          refine gn ?_
          refine ⟨_, rfl, _, rfl, _, rfl, s, d, m, W, rfl, c1, o, hd.keep kX1 hs, by omega, by omega, fun v1 X2 t1 k2 c2 tr1 dn1 => ?_⟩
          have kX2 := kX1.trans k2
          refine ⟨_, rfl, _, rfl, _, rfl, _, _, rfl, rfl, _, _, rfl, rfl, _, rfl, s, d, r - m - 1, W, ?_, c2, o, hd.keep kX2 hs, by omega, by omega, fun v2 X3 t2 k3 c3 tr2 dn2 => ?_⟩
          · show [V.ref s, V.int (((r : Nat) : Int) - ((m : Nat) : Int) - 1), V.ref d] = _
            rw [show ((r : Nat) : Int) - ((m : Nat) : Int) - 1 = ((r - m - 1 : Nat) : Int) by omega]
          have kX3 := kX2.trans k3
          refine ⟨sz (by simp), fun p hp => ?_⟩
          have Sp := same_new hp (.tup [V.str "fun", v1, v2])
          have hpH : H p = none := kX3.none c3 hp
          have tr1' := ((tr1.same (nw_in kX1 c1)).same (nw_keep k3 hs)).same (nw_same Sp)
          have tr2' := (tr2.same (nw_in kX2 c2)).same (nw_same Sp)
          refine q _ _ (.node .fn [t1, t2]) (kX3.trans Sp.keep) (c3.same Sp) (.fn (SqT.of (nw_at hpH)) tr1' tr2') ⟨.mk trivial ?_, .mk rfl ?_, ?_, ?_, ?_⟩
          · intro t mt
            simp only [List.mem_cons, List.not_mem_nil, or_false] at mt
            rcases mt with rfl | rfl
            · exact dn1.dr
            · exact dn2.dr
          · intro t mt
            simp only [List.mem_cons, List.not_mem_nil, or_false] at mt
            rcases mt with rfl | rfl
            · exact dn1.wy
            · exact dn2.wy
          · have a1 := dn1.sz
            have a2 := dn2.sz
            have := szR_fn r2 hm
            simp only [Ty.size, Ty.sizes]
            omega
          · have a1 := dn1.dp
            have a2 := dn2.dp
            have b1 := dpR_lt r2 hm
            have b2 := dpR_lt (m := r - m - 1) r2 (by omega)
            simp only [Ty.deep, Ty.deeps]
            omega
          · have a1 := dn1.dd
            have a2 := dn2.dd
            have b1 := ddR_fn r2 hm
            have b2 := ddR_fn (m := r - m - 1) r2 (by omega)
            have b3 := ddR_pos m
            simp only [Ty.dd, Ty.dds, Hy.dw]
            omega
        · refine ifFf (decide_eq_false (by omega)) ?_
          refine ⟨_, rfl, _, _, rfl, rfl, _, rfl, ?_⟩
          by_cases c12 : i < 12
          · refine ifTt (decide_eq_true (by omega)) ?_
            refine ⟨_, rfl, s, 5, rfl, cZ, by decide, by decide, fun m0 X1 m1 m2 k1 c1 => ?_⟩
            obtain ⟨m, rfl⟩ := Int.eq_ofNat_of_zero_le m1
            have hm : m < 5 := by omega
            have kX1 := kZ.trans k1
            refine ⟨_, _, rfl, rfl, ?_⟩
            refine gn ?_
            dsimp only
            refine ⟨_, rfl, _, rfl, by omega, by omega, fun D hD => ?_⟩
            have nD : H D = none := kX1.none c1 hD
            refine lc_range (lo := 0) (n := ((2 : Int) + (m : Nat)).toNat) (fun i X => ∃ (G : Hp) (us : List V) (ts : List Ty), Same G X ∧ G D = none ∧ Keep s X1 G ∧ Src G s ∧ X D = some (.lst us) ∧ us.length = i ∧ ts.length = i ∧
                (∀ (j : Nat) (u : V) (t : Ty), us[j]? = some u → ts[j]? = some t → Tr K (nw H G) u t) ∧ ∀ t ∈ ts, Dn W (r / (2 + m)) t)
              ⟨X1, [], [], same_new hD _, hD, Keep.refl _ _, c1, upd_same, rfl, rfl, fun _ _ _ h => by simp at h, fun t h => by cases h⟩ ?_ ?_
            · rintro i X hi ⟨G, us, ts, g1, g2, g3, g4, g5, e2, e3, f2, f3⟩
              have hdX : WoR X d W := (hd.keep ((kX1.trans g3).same g1) hs)
              refine gn ?_
              refine ⟨rfl, ?_⟩
              refine yes_of (ifTt rfl ?_)
              have hq2 : r / (2 + m) < r := Nat.div_lt_self (by omega) (by omega)
              refine ⟨_, rfl, _, rfl, _, rfl, _, _, rfl, rfl, ?_, _, rfl, s, d, r / (2 + m), W, ?_, g4.same g1, o, hdX, by omega, by omega, fun v X' t kx hsx tm dn => ?_⟩
              · unfold CDiv
                omega
              · show [V.ref s, V.int (((r : Nat) : Int) / (2 + (m : Nat))), V.ref d] = _
                rw [show ((r : Nat) : Int) / (2 + (m : Nat)) = ((r / (2 + m) : Nat) : Int) from by rw [Int.natCast_ediv]; rfl]
              obtain ⟨a1, a2, a3, a4⟩ := grow14 (L := .lst (us ++ [v])) g1 g2 g4 kx hsx
              have b1 : Same (nw H G) (nw H (off D X')) := nw_keep a3 hs
              have hD' : X' D = some (.lst us) := kx.list (g4.same g1) (No3.of_ref fun v hv j z => by
                obtain ⟨c, hc, q⟩ := List.getElem_of_mem hv
                exact (f2 c v (ts[c]'(by omega)) (by rw [List.getElem?_eq_getElem hc, q]) (List.getElem?_eq_getElem (by omega))).ne_int j z) g5
              refine ⟨us, hD', sz (by omega), off D X', us ++ [v], ts ++ [t], a1, a2, g3.trans a3, a4, upd_same, by simp [e2], by simp [e3], ?_, ?_⟩
              · intro j u t' h1 h2
                by_cases q : j < i
                · rw [List.getElem?_append_left (by omega)] at h1 h2
                  exact (f2 j u t' h1 h2).same b1
                · have hj : j = i := by
                    have := (List.getElem?_eq_some_iff.mp h1).1
                    simp at this
                    omega
                  subst hj
                  rw [List.getElem?_append_right (by omega)] at h1 h2
                  simp [e2, e3] at h1 h2
                  rw [← h1, ← h2]
                  refine tm.same (fun c o hc => ?_)
                  obtain ⟨q1, q2⟩ := nw_get hc
                  have q3 : H c = none := ((kX1.trans g3).same g1).none (g4.same g1) q1
                  rw [nw_of q3, off_ne (fun z => by rw [z, g5] at q1; cases q1)]
                  exact q2
              · intro t' ht
                rcases List.mem_append.mp ht with ht | ht
                · exact f3 t' ht
                · rw [List.mem_singleton.mp ht]
                  exact dn
            · rintro X ⟨G, us, ts, g1, g2, g3, g4, g5, e2, e3, f2, f3⟩
              have kE := (kX1.trans g3).same g1
              have hsE := g4.same g1
              refine ⟨sz (by simp), fun p6 hp6 => ?_⟩
              have S6 := same_new hp6 (.tup [V.str "tuple", V.ref D])
              have b6 := nw_same (H := H) S6
              have hlen : ts.length = 2 + m := by omega
              have z1 := ty_sizes_le (m := szR (r / (2 + m))) fun t ht => (f3 t ht).sz
              have z2 := ty_deeps_le (m := dpR (r / (2 + m))) fun t ht => (f3 t ht).dp
              have hq1 : (2 + m) * (r / (2 + m)) ≤ r := Nat.mul_div_le _ _
              have z3 := szR_many (n := 2 + m) (q := r / (2 + m)) r2 (by omega) hq1 (.inl (by omega))
              have hq2 : r / (2 + m) < r := Nat.div_lt_self (by omega) (by omega)
              have z4 := dpR_lt r2 hq2
              rw [hlen] at z1
              refine q _ _ (.node .tup ts) (kE.same S6) (hsE.same S6) (.tup (SqT.of (nw_at (kE.none hsE hp6))) (SqL.of (b6 _ _ ((nw_of nD).trans g5))) (by omega) (fun j u t h1 h2 => ((f2 j u t h1 h2).same (nw_same g1)).same b6)) ⟨.mk trivial fun t ht => (f3 t ht).dr, .mk ⟨by omega, by omega⟩ fun t ht => (f3 t ht).wy, ?_, ?_, ?_⟩
              · simp only [Ty.size]
                omega
              · simp only [Ty.deep]
                omega
              · have z5 := ty_dds_le (ddR_pos (r / (2 + m))) fun t ht => (f3 t ht).dd
                have z6 := ddR_half (m := r / (2 + m)) r2 (by
                  have := Nat.mul_le_mul_right (r / (2 + m)) (by omega : 2 ≤ 2 + m)
                  omega)
                simp only [Ty.dd, Hy.dw]
                omega
          · refine ifFf (decide_eq_false (by omega)) ?_
            refine nxt_seq ?_
            refine asg_uni14 (R := fun x Z1 => ∃ m : Option Nat, x = tailV m ∧ Keep s H Z1 ∧ Src Z1 s ∧ (m = none ∨ m = some (W.nr 4) ∨ m = some (W.nr 5) ∨ m = some (W.nr 6))) (fun Q2 hq => ?_) ?_
            · refine ⟨_, rfl, rfl, _, rfl, ?_⟩
              by_cases e12 : i = 12
              · refine ifTt (decide_eq_true (by rw [e12]; rfl)) ?_
                exact hq _ _ ⟨none, rfl, kZ, cZ, .inl rfl⟩
              · refine ifFf (decide_eq_false (fun z => e12 (by injection z with z; omega))) ?_
                have dt : DGet Z d (.str "tails") (some (.ref ta)) := by
                  have z := DGet.k (k := .inr "tails") w1
                  rw [vt_tails] at z
                  exact z
                refine ⟨_, rfl, _, rfl, d, .ref ta, rfl, dt, ta, _, rfl, .inl w3, fun p hp => ?_⟩
                have Sp := same_new hp (.lst [V.int (W.nr 4 : Nat), V.int (W.nr 5 : Nat), V.int (W.nr 6 : Nat)])
                refine ⟨s, p, [V.int (W.nr 4 : Nat), V.int (W.nr 5 : Nat), V.int (W.nr 6 : Nat)], rfl, cZ.same Sp, SqL.of upd_same, .inr (cZ.ne hp), by simp, by simp, fun v X hv kx cx => ?_⟩
                have kX := (kZ.same Sp).trans kx
                simp only [List.mem_cons, List.not_mem_nil, or_false] at hv
                rcases hv with rfl | rfl | rfl
                · exact hq _ _ ⟨some (W.nr 4), rfl, kX, cx, by simp⟩
                · exact hq _ _ ⟨some (W.nr 5), rfl, kX, cx, by simp⟩
                · exact hq _ _ ⟨some (W.nr 6), rfl, kX, cx, by simp⟩
            · rintro x Z1 ⟨m, rfl, kZ1, cZ1, hm⟩
              refine asg_uni14 (R := fun x Z2 => ∃ (p : Addr) (ns : List Str), x = .ref p ∧ Keep s H Z2 ∧ Src Z2 s ∧ SqL K Z2 p (ns.map V.str) ∧ W.fits (.rcd ns m) ∧ ns.length ≤ 4) (fun Q2 hq => ?_) ?_
              · have hdZ1 := hd.keep kZ1 hs
                obtain ⟨va, ta, la, lb, lc, w1, w2, w3, w4, w5, w6⟩ := hdZ1
                have dt := WoR.tails w1
                obtain ⟨g4, g5, g6⟩ := dget_tail o w3
                refine ⟨_, rfl, rfl, _, rfl, ?_⟩
                rcases hm with rfl | rfl | rfl | rfl
                · refine ifTt (decide_eq_true rfl) ?_
                  exact ⟨_, rfl, s, 4, rfl, cZ1, fun p ns X k1 c1 n1 e1 sub len => hq _ _ ⟨p, ns, rfl, kZ1.trans k1, c1, SqL.of e1, ⟨sub, len⟩, len⟩⟩
                · refine ifFf (decide_eq_false (fun z => by cases z)) ?_
                  exact ⟨_, rfl, d, .ref ta, rfl, dt, _, rfl, ta, .ref la, rfl, g4, hq _ _ ⟨la, W.one, rfl, kZ1, cZ1, SqL.of w4, .inl ⟨rfl, rfl⟩, by have := o.s1.2; omega⟩⟩
                · refine ifFf (decide_eq_false (fun z => by cases z)) ?_
                  exact ⟨_, rfl, d, .ref ta, rfl, dt, _, rfl, ta, .ref lb, rfl, g5, hq _ _ ⟨lb, W.two, rfl, kZ1, cZ1, SqL.of w5, .inr (.inl ⟨rfl, rfl⟩), by have := o.s2.2; omega⟩⟩
                · refine ifFf (decide_eq_false (fun z => by cases z)) ?_
                  exact ⟨_, rfl, d, .ref ta, rfl, dt, _, rfl, ta, .ref lc, rfl, g6, hq _ _ ⟨lc, W.three, rfl, kZ1, cZ1, SqL.of w6, .inr (.inr ⟨rfl, rfl⟩), by have := o.s3.2; omega⟩⟩
              · rintro x Z2 ⟨p, ns, rfl, kZ2, cZ2, sq, fit, len4⟩
                have hq2 : ns ≠ [] → r / (ns.length + 1) < r := fun h => Nat.div_lt_self (by omega) (by have := List.length_pos_iff.mpr h; omega)
                refine ⟨_, rfl, p, rfl, ⟨_, sq⟩, fun D hD => ?_⟩
                have nD : H D = none := kZ2.none cZ2 hD
                refine lc_list (K := K) (a := p) (xs := ns.map V.str) (fun i X => ∃ (G : Hp) (bs : List Addr) (us : List V) (ts : List Ty), Same G X ∧ G D = none ∧ Keep s Z2 G ∧ Src G s ∧ X D = some (.lst (bs.map V.ref)) ∧ bs.length = i ∧ us.length = i ∧ ts.length = i ∧
                    (∀ (j : Nat) (b : Addr) (n : Str) (u : V), bs[j]? = some b → ns[j]? = some n → us[j]? = some u → SqT K (nw H G) b [.str n, u]) ∧ (∀ (j : Nat) (u : V) (t : Ty), us[j]? = some u → ts[j]? = some t → Tr K (nw H G) u t) ∧ ∀ t ∈ ts, Dn W (r / (ns.length + 1)) t)
                  ⟨Z2, [], [], [], same_new hD _, hD, Keep.refl _ _, cZ2, upd_same, rfl, rfl, rfl, fun _ _ _ _ h => by simp at h, fun _ _ _ h => by simp at h, fun t h => by cases h⟩
                  (fun i X hi ⟨G, _, _, _, g1, _, g3, _⟩ => g1.seq (g3.seq cZ2 (no3_strs ns) sq)) ?_ ?_
                · rintro i x X hx ⟨G, bs, us, ts, g1, g2, g3, g4, g5, e1, e2, e3, f1, f2, f3⟩
                  obtain ⟨nm, hnm, hx2, rfl⟩ := get_map hx
                  have hi := (List.getElem?_eq_some_iff.mp hx2).1
                  have hne : ns ≠ [] := fun z => by rw [z] at hi; exact absurd hi (by simp)
                  have hq := hq2 hne
                  have sqX := g1.seq (g3.seq cZ2 (no3_strs ns) sq)
                  have hdX := hd.keep ((kZ2.trans g3).same g1) hs
                  refine gn ?_
                  refine ⟨rfl, ?_⟩
                  refine yes_of (ifTt rfl ?_)
                  refine ⟨_, rfl, _, rfl, _, rfl, _, rfl, p, _, rfl, .inl sqX, _, _, rfl, rfl, _, _, rfl, rfl, ?_, _, rfl, s, d, r / (ns.length + 1), W, ?_, g4.same g1, o, hdX, Nat.lt_of_lt_of_le hq (Nat.le_of_lt_succ hr1), Nat.le_trans (Nat.le_of_lt hq) hr2, fun v X' t kx hsx tm dn => ?_⟩
                  · unfold CDiv
                    rw [List.length_map]
                    omega
                  · show [V.ref s, V.int (((r : Nat) : Int) / ((((ns.map V.str).length : Nat) : Int) + 1)), V.ref d] = _
                    rw [List.length_map, show ((r : Nat) : Int) / (((ns.length : Nat) : Int) + 1) = ((r / (ns.length + 1) : Nat) : Int) from by rw [Int.natCast_ediv]; rfl]
                  refine ⟨sz (by simp), fun pt hpt => ?_⟩
                  have St := same_new hpt (.tup [V.str nm, v])
                  obtain ⟨a1, a2, a3, a4⟩ := grow14 (L := .lst (bs.map V.ref ++ [V.ref pt])) g1 g2 g4 (kx.same St) (hsx.same St)
                  have b1 := nw_keep (H := H) a3 hs
                  have hD' : X' D = some (.lst (bs.map V.ref)) := kx.list (g4.same g1) no3_refs g5
                  have ptD : pt ≠ D := fun z => by rw [z, hD'] at hpt; cases hpt
                  have hpX : X pt = none := kx.none hsx hpt
                  have hpH : H pt = none := ((kZ2.trans g3).same g1).none (g4.same g1) hpX
                  have tnew : SqT K (nw H (off D (upd X' pt (.tup [V.str nm, v])))) pt [V.str nm, v] := SqT.of (by rw [nw_of hpH, off_ne ptD, upd_same])
                  have vnew : Tr K (nw H (off D (upd X' pt (.tup [V.str nm, v])))) v t := (tm.same (nw_same St)).same fun c o' hc => by
                    obtain ⟨q1, q2⟩ := nw_get hc
                    have q3 : H c = none := ((kZ2.trans g3).same g1).none (g4.same g1) q1
                    rw [nw_of q3, off_ne (fun z => by rw [z, g5] at q1; cases q1)]
                    exact q2
                  refine ⟨bs.map V.ref, St _ _ hD', sz (by rw [List.length_map]; omega), off D (upd X' pt (.tup [V.str nm, v])), bs ++ [pt], us ++ [v], ts ++ [t], a1, a2, g3.trans a3, a4, ?_, by simp [e1], by simp [e2], by simp [e3], ?_, ?_, ?_⟩
                  · rw [upd_same, List.map_append]
                    rfl
                  · intro j b n u h1 h2 h3
                    rcases getSnoc h1 with ⟨q1, h1⟩ | ⟨q1, rfl⟩
                    · rcases getSnoc h3 with ⟨_, h3⟩ | ⟨q3, _⟩
                      · exact b1.tupS (f1 j b n u h1 h2 h3)
                      · omega
                    · rcases getSnoc h3 with ⟨q3, _⟩ | ⟨_, rfl⟩
                      · omega
                      · rw [q1, e1, hx2] at h2
                        injection h2 with h2
                        rw [← h2]
                        exact tnew
                  · intro j u t' h1 h2
                    rcases getSnoc h1 with ⟨q1, h1⟩ | ⟨q1, rfl⟩
                    · rcases getSnoc h2 with ⟨_, h2⟩ | ⟨q3, _⟩
                      · exact (f2 j u t' h1 h2).same b1
                      · omega
                    · rcases getSnoc h2 with ⟨q3, _⟩ | ⟨_, rfl⟩
                      · omega
                      · exact vnew
                  · intro t' ht
                    rcases List.mem_append.mp ht with ht | ht
                    · exact f3 t' ht
                    · rw [List.mem_singleton.mp ht]
                      exact dn
                · rintro X ⟨G, bs, us, ts, g1, g2, g3, g4, g5, e1, e2, e3, f1, f2, f3⟩
                  rw [List.length_map] at e1 e2 e3
                  have kE := (kZ2.trans g3).same g1
                  have hsE := g4.same g1
                  refine ⟨_, rfl, sz (by simp), fun p6 hp6 => ?_⟩
                  have S6 := same_new hp6 (.tup [V.str "record", V.ref D, tailV m])
                  have b6 := nw_same (H := H) S6
                  have b7 := nw_same (H := H) g1
                  obtain ⟨sub, len⟩ := o.sub fit
                  have z1 := ty_sizes_le (m := szR (r / (ns.length + 1))) fun t ht => (f3 t ht).sz
                  have z2 := ty_deeps_le (m := dpR (r / (ns.length + 1))) fun t ht => (f3 t ht).dp
                  have hq1 : (ns.length + 1) * (r / (ns.length + 1)) ≤ r := Nat.mul_div_le _ _
                  have hq3 : ns.length * (r / (ns.length + 1)) ≤ r := Nat.le_trans (Nat.mul_le_mul_right _ (Nat.le_succ _)) hq1
                  have z3 := szR_many (n := ns.length) (q := r / (ns.length + 1)) r2 (by omega) hq3 (by
                    by_cases c : ns.length = 1
                    · right
                      rw [c] at hq1 ⊢
                      exact hq1
                    · exact .inl c)
                  rw [e3] at z1
                  refine q _ _ (.node (.rcd ns m) ts) (kE.same S6) (hsE.same S6) (.rcd (SqT.of (nw_at (kE.none hsE hp6))) (SqL.of (b6 _ _ ((nw_of nD).trans g5))) (by omega) (by omega) (by omega) (fun j b n u h1 h2 h3 => b6.tupS (b7.tupS (f1 j b n u h1 h2 h3))) (fun j u t h1 h2 => ((f2 j u t h1 h2).same b7).same b6))
                    ⟨.mk fit fun t ht => (f3 t ht).dr, .mk ⟨by omega, fun l hl => menu_lab l (sub.subset hl)⟩ fun t ht => (f3 t ht).wy, ?_, ?_, ?_⟩
                  · simp only [Ty.size]
                    omega
                  · simp only [Ty.deep]
                    by_cases c : ns = []
                    · have : ts = [] := List.eq_nil_of_length_eq_zero (by rw [e3, c]; rfl)
                      rw [this]
                      simp only [Ty.deeps, dpR]
                      rw [if_neg (by omega)]
                      omega
                    · have z4 := dpR_lt r2 (hq2 c)
                      omega
                  · by_cases c : ns = []
                    · have : ts = [] := List.eq_nil_of_length_eq_zero (by rw [e3, c]; rfl)
                      rw [this]
                      simp only [Ty.dd, Ty.dds, Hy.dw, ddR]
                      rw [if_neg (by omega)]
                      omega
                    · have c1 := List.length_pos_iff.mpr c
                      have z5 := ty_dds_le (ddR_pos (r / (ns.length + 1))) fun t ht => (f3 t ht).dd
                      have z6 := ddR_half (m := r / (ns.length + 1)) r2 (by
                        have := Nat.mul_le_mul_right (r / (ns.length + 1)) (by omega : 2 ≤ ns.length + 1)
                        omega)
                      simp only [Ty.dd, Hy.dw]
                      omega
end
end Vt


set_option Elab.async false
set_option linter.all false
set_option maxRecDepth 100000
set_option maxHeartbeats 4000000

namespace Vt
open PySem PySem.Spec PyProof.Rows L2
theorem tyT {K : PySem.W.Frag} {H : Hp} {a : Addr} {xs : List V} (h : SqT K H a xs) : TyX K H (.ref a) (.type "tuple") := by
  rcases h with (h | ⟨o, h⟩) | ⟨o, its, n, h, c, _⟩
  · exact .base (.tup h)
  · exact .fTuple h
  · exact .kTuple h c
theorem tyL {K : PySem.W.Frag} {H : Hp} {a : Addr} {xs : List V} (h : SqL K H a xs) : TyX K H (.ref a) (.type "list") := by
  rcases h with (h | ⟨o, h⟩) | ⟨o, its, n, h, c, _⟩
  · exact .base (.lst h)
  · exact .base (.frz h)
  · exact .kList h c
theorem at0 {x : V} {xs : List V} : atI (x :: xs) 0 = some x := atI_nat (j := 0) rfl
theorem ifT {c : Bool} {A B : Prop} (h : c = true) (a : A) : if c = true then A else B := by
  rw [if_pos h]
  exact a
theorem ifF {c : Bool} {A B : Prop} (h : c = false) (b : B) : if c = true then A else B := by
  rw [h, if_neg Bool.false_ne_true]
  exact b
theorem dpStrs {K : PySem.W.Frag} {H : Hp} : ∀ ns : List Str, DpAll K H (ns.map V.str) (ns.map PyData.str)
  | [] => .nil
  | n :: r => .cons (.str n) (dpStrs r)
theorem isName.ok {n : Str} (h : isName n) : PyData.strOk n = true := by
  unfold PyData.strOk
  rw [Array.all_eq_true']
  intro c hc
  have := h.2.2 c (Array.mem_toList_iff.mpr hc)
  exact decide_eq_true (by omega)
theorem strs_lay : ∀ ns : List Str, (∀ n ∈ ns, isName n) → PyData.canLayAll0 (ns.map PyData.str) = true
  | [], _ => by simp [PyData.canLayAll0]
  | n :: r, h => by
    simp only [List.map_cons, PyData.canLayAll0, PyData.canLay0, (h n List.mem_cons_self).ok, strs_lay r fun m hm => h m (List.mem_cons_of_mem _ hm), Bool.and_self]
theorem strs_depth : ∀ ns : List Str, PyData.depthAll (ns.map PyData.str) ≤ 2
  | [] => by simp [PyData.depthAll]
  | n :: r => by
    have := strs_depth r
    simp only [List.map_cons, PyData.depthAll, PyData.depth]
    omega
theorem strs_shaped (ns : List Str) (hn : ∀ n ∈ ns, isName n) : SeqAt.shaped (.list (ns.map PyData.str)) = true := by
  have h := strs_depth ns
  have h2 : PyData.depth (.list (ns.map PyData.str)) ≤ 64 := by
    simp only [PyData.depth]
    omega
  show (PyData.canLay0 (.list (ns.map PyData.str)) && decide (PyData.depth (.list (ns.map PyData.str)) ≤ 64)) = true
  rw [Bool.and_eq_true]
  exact ⟨by simp only [PyData.canLay0]; exact strs_lay ns hn, decide_eq_true h2⟩
theorem nil_shaped : SeqAt.shaped (.list []) = true := strs_shaped [] (fun n h => by cases h)
theorem mem_rep {xs : List V} {k : Nat} {v : V} (h : v ∈ (List.replicate k xs).flatten) : v ∈ xs := by
  obtain ⟨l, hl, hv⟩ := List.mem_flatten.mp h
  rw [(List.mem_replicate.mp hl).2] at hv
  exact hv
theorem mem_cut {xs : List V} {lo hi : Option Int} {v : V} (h : v ∈ cutV xs lo hi) : v ∈ xs := List.mem_of_mem_drop (List.mem_of_mem_take h)
def nums (p : List Nat) : List V := p.map fun (n : Nat) => V.int (n : Int)
theorem nums_snoc (p : List Nat) (i : Nat) : nums (p ++ [i]) = nums p ++ [V.int (i : Int)] := by unfold nums; rw [List.map_append]; rfl
theorem Al.app {α β : Type} {R : α → β → Prop} {xs xs' : List α} {ys ys' : List β} (h : Al R xs ys) (k : Al R xs' ys') : Al R (xs ++ xs') (ys ++ ys') := by
  obtain ⟨l, f⟩ := h
  obtain ⟨l', f'⟩ := k
  refine ⟨by simp [l, l'], fun i u v hu hv => ?_⟩
  by_cases q : i < xs.length
  · rw [List.getElem?_append_left q] at hu
    rw [List.getElem?_append_left (by omega)] at hv
    exact f i u v hu hv
  · rw [List.getElem?_append_right (by omega)] at hu
    rw [List.getElem?_append_right (by omega)] at hv
    rw [← l] at hv
    exact f' _ u v hu hv
end Vt


set_option Elab.async false
set_option linter.all false
set_option maxRecDepth 100000
set_option maxHeartbeats 4000000

namespace Vt
open PySem PySem.Spec PyProof.Rows L2
/-- a def that keeps a promise, with its own text -/
def DefOkF (P : Program) (w : World) (K : PySem.W.Frag) (mg : Str → Option Value) (base : Heap) (CX : CXT) (k : Nat) (x : Str) (st : Stmt) (ps : List Str) (sp : Sp) : Prop :=
  ∃ f fd, Fun K x x st f fd ∧ FnOk P w K mg base CX k f fd ps sp ∧ mg x = some (.ref f) ∧ PySem.W.keepIn K (.ref f) = true ∧ Binds K fd ps []
theorem DefOkF.to {P : Program} {w : World} {K : PySem.W.Frag} {mg : Str → Option Value} {base : Heap} {CX : CXT} {k : Nat} {x : Str} {st : Stmt} {ps : List Str} {sp : Sp} (h : DefOkF P w K mg base CX k x st ps sp) : DefOk P w K mg base CX k x ps sp := by
  obtain ⟨f, fd, _, r⟩ := h
  exact ⟨f, fd, r⟩
/-! ### rules that the program's own defs want -/
/-- a list or a tuple of these items -/
def Sq (K : PySem.W.Frag) (H : Hp) (a : Addr) (xs : List V) : Prop := SqL K H a xs ∨ SqT K H a xs
theorem Sq.same {K : PySem.W.Frag} {H H' : Hp} {a : Addr} {xs : List V} (h : Sq K H a xs) (s : Same H H') : Sq K H' a xs := h.imp (fun z => s.seq z) (fun z => s.tupS z)
/-- the call of what a slot holds: the promise goes with the address -/
def tHeld (P : Program) (w : World) (K : PySem.W.Frag) (mg : Str → Option Value) (base : Heap) (k i : Nat) (t : TA) : TE := fun σ H Q => ∃ f sp, σ[i]? = some (some (.ref f)) ∧ Held P w K mg base k f sp ∧ t σ H fun vs H1 => sp vs H1 Q (fun _ _ _ => False)
section
variable {X : Cx}
theorem pe_held {k i : Nat} {x : Str} {p pos : Pos} {e : Expr} {es : List Expr} {t : TA} (hr : Room k X.A) (hN : X.N[i]? = some x) (hv : Vis X.env.scope x) (ha : PA X (e :: es) t)
    (hdb : (x == ("__debug__" : Str)) = false := by decide) (hcd : (x == ("__classdict__" : Str)) = false := by decide) (he : starEach (e :: es) X.env = (false, eval e X.env) :: starEach es X.env := by rfl) (hpl : (backTo pos (starEach es X.env)).any (·.1) = false := by rfl) :
    PE X (.Call (.Name x p) (e :: es) [] pos) (tHeld X.prog X.w X.K X.mg X.base k i t) := by
  constructor
  rintro pins s σ H Q I ⟨f, sp, hs, D, ht⟩
  exact (pe_callA (S := fun a => if a = f then some sp else none) (fun g sq e => by
    by_cases z : g = f
    · subst z
      rw [if_pos rfl] at e
      cases e
      exact D
    · rw [if_neg z] at e
      cases e) hr hN hv ha hdb hcd he hpl).run pins s σ H Q I ⟨f, sp, hs, if_pos rfl, ht⟩
/-- xs.extend(ys), ys a list or a tuple -/
theorem ext_any {prog : Program} {w : World} (l : Addr) (its : Array Value) (n : Nat) (b : Addr) (o : Obj) (its2 : Array Value) (n2 : Nat) (hc : o.cls = .type "list" ∨ o.cls = .type "tuple") (hd : o.data = .seq its2 n2)
    (hs0 : ¬(!its.isEmpty && Builtin.List.listTooLong (its.size + its2.size)) = true) (hs1 : its.size ≤ sizeLine) (hs2 : its.size + its2.size ≤ sizeLine + 1) :
    Meets (Builtin.«list.extend» ⟨[.ref l, .ref b], []⟩) (fun _ R s => s.heap.get? l = some { cls := .type "list", dict := none, data := .seq its n, slots := #[] } ∧ s.heap.get? b = some o ∧ R (.ok (.ret Value.none)) { s with heap := s.heap.update l (Obj.mapSeq fun x => x ++ its2), toks := s.toks }) :=
  .of_wp fun prog w A R s h => by
    obtain ⟨hp, g, d, tk, os⟩ := s
    obtain ⟨hl, hb, h⟩ := h
    obtain ⟨oc, od, oda, osl⟩ := o
    have hz' : (its ++ its2).size ≤ sizeLine + 1 := by
      rw [Array.size_append]
      exact hs2
    cases hd
    rcases hc with hc | hc
    · cases hc
      wp_walk using (wpAny_updateSeq hl rfl (hz := hs1) (_hz' := hz')), wpAny_loadPart' hl, wpAny_loadPart' hb
      exact ⟨_, rfl, h⟩
    · cases hc
      wp_walk using (wpAny_updateSeq hl rfl (hz := hs1) (_hz' := hz')), wpAny_loadPart' hl, wpAny_loadPart' hb
      exact ⟨_, rfl, h⟩
def rExtA (K : PySem.W.Frag) : V → List V → Hp → VK → Prop := fun x vs H Q => ∃ l b xs zs, x = .ref l ∧ vs = [.ref b] ∧ H l = some (.lst xs) ∧ Sq K H b zs ∧ xs.length + zs.length ≤ sizeLine ∧ Q .non (upd H l (.lst (xs ++ zs)))
theorem mt_extA : MtM X "list.extend" (rExtA X.K) := by
  intro pins s σ H x vs v us Q I rx rv h
  obtain ⟨l, b, xs, zs, rfl, rfl, hH, hB, hz, q⟩ := h
  cases rx
  obtain ⟨u, rfl, ru⟩ := rv.one
  cases ru
  obtain ⟨z, its, n, r, hl, e⟩ := I.lstM hH
  have hobj : ∃ (its2 : List Value) (o : Obj) (n2 : Nat), Vals zs its2 ∧ s.heap.get? b = some o ∧ (o.cls = .type "list" ∨ o.cls = .type "tuple") ∧ o.data = .seq its2.toArray n2 := by
    rcases hB with hB | hB
    · obtain ⟨i2, r2, ⟨o, n2, e2, c2, _, d2⟩, _⟩ := I.list hB
      exact ⟨i2, o, n2, r2, e2, .inl c2, d2⟩
    · obtain ⟨i2, r2, ⟨o, e2, c2, n2, d2⟩, _⟩ := I.tuple hB
      exact ⟨i2, o, n2, r2, e2, .inr c2, d2⟩
  obtain ⟨its2, o, n2, r2, e2, c2, d2⟩ := hobj
  have hl2 := r2.length
  have hsum : its.toArray.size + its2.toArray.size ≤ sizeLine := by
    simp only [List.size_toArray]
    omega
  have hlong : ¬ (!its.toArray.isEmpty && Builtin.List.listTooLong (its.toArray.size + its2.toArray.size)) = true := by
    rw [notLongL hsum, Bool.and_false]
    decide
  refine call_meets F.slot_list_extend ⟨_, e, rfl⟩ F.entry_list_extend (F.args_list_extend_2 _ _) (ext_any (prog := X.prog) (w := X.w) l its.toArray n b o its2.toArray n2 c2 d2 hlong (by omega) (by omega)) ⟨e, e2, ?_⟩
  exact ⟨.non, _, I.lset (its' := its ++ its2) hH e (by simp) (r.append r2) (by rw [List.length_append]; exact hz), rfl, q⟩
end
/-- a walk over a list or a tuple -/
theorem pi_either {X : Cx} {tg e : Expr} {A B : TI} (a : PI X tg e A) (b : PI X tg e B) : PI X tg e (fun σ H R => A σ H R ∨ B σ H R) := by
  constructor
  rintro pins s σ H R I (h | h)
  · exact a.run pins s σ H R I h
  · exact b.run pins s σ H R I h
/-- .. where all that it walks stands in G -/
theorem for_sq {K : PySem.W.Frag} {a : Addr} {xs : List V} {n : Nat} {g : TG} {tb : TS} {D : Ends} {σ : L2.St} {H G : Hp} (hσ : σ[n]? = some (some (.ref a))) (hq : Sq K G a xs) (Pv : Nat → L2.St → Hp → Prop) (h0 : Pv 0 σ H) (hG : ∀ i σ X, Pv i σ X → Same G X)
    (hs : ∀ i x σ X, xs[i]? = some x → Pv i σ X → g x σ X fun σ2 X2 => tb { D with nx := Pv (i + 1), ct := Pv (i + 1), bk := D.nx } σ2 X2) (hd : ∀ σ X, Pv xs.length σ X → D.nx σ X) :
    tFor (fun σ H R => iList K (tVar n) σ H R ∨ iTup K (tVar n) σ H R) g tb D σ H := by
  rcases hq with hq | hq
  · exact .inl ⟨.ref a, hσ, a, rfl, ⟨xs, (hG 0 σ H h0).seq hq⟩, for_list (K := K) (a := a) (xs := xs) Pv h0 (fun i σ X _ z => (hG i σ X z).seq hq) hs hd⟩
  · exact .inr ⟨.ref a, hσ, a, rfl, ⟨xs, (hG 0 σ H h0).tupS hq⟩, for_tup (K := K) (a := a) (xs := xs) Pv h0 (fun i σ X _ z => (hG i σ X z).tupS hq) hs hd⟩
/-- the first steps of a reading alone -/
theorem gName_to {i : Nat} {v : V} {σ : L2.St} {H : Hp} {Q : L2.St → Hp → Prop} (h : Q (σ.set i (some v)) H) : gName i v σ H Q := h
theorem nx_seq {t u : TS} {D : Ends} {r : VK} {b c : L2.St → Hp → Prop} {σ : L2.St} {H : Hp} (h : t { D with nx := u D } σ H) : Ends.nx { nx := tSeq t u D, rt := r, bk := b, ct := c } σ H := h
theorem nx_one {t : TS} {D : Ends} {r : VK} {b c : L2.St → Hp → Prop} {σ : L2.St} {H : Hp} (h : t D σ H) : Ends.nx { nx := t D, rt := r, bk := b, ct := c } σ H := h
/-! ### names -/
theorem low_az : ∀ c : Nat, 97 ≤ c → c ≤ 122 → Unicode.isAlpha c = true ∧ Unicode.isLower c = true ∧ Unicode.isUpper c = false ∧ Unicode.isTitle c = false := by
  have z : ∀ k : Fin 26, Unicode.isAlpha (97 + k.val) = true ∧ Unicode.isLower (97 + k.val) = true ∧ Unicode.isUpper (97 + k.val) = false ∧ Unicode.isTitle (97 + k.val) = false := by decide +kernel
  intro c h1 h2
  have := z ⟨c - 97, by omega⟩
  rw [show 97 + (c - 97) = c by omega] at this
  exact this
theorem name_len {n : Str} (h : isName n) : n.cps.size = n.length := rfl
theorem name_ascii {n : Str} (h : isName n) : Txt.isascii n = true := by
  unfold Txt.isascii
  rw [← Array.all_toList, List.all_eq_true]
  intro c hc
  have := h.2.2 c hc
  exact decide_eq_true (by omega)
theorem name_alpha {n : Str} (h : isName n) : Txt.isalpha n = true := by
  unfold Txt.isalpha
  rw [Bool.and_eq_true]
  refine ⟨decide_eq_true (by have := h.1; omega), ?_⟩
  rw [← Array.all_toList, List.all_eq_true]
  intro c hc
  have := h.2.2 c hc
  exact (low_az c this.1 this.2).1
theorem name_lower {n : Str} (h : isName n) : Txt.islower n = true := by
  unfold Txt.islower
  rw [Bool.and_eq_true]
  refine ⟨?_, ?_⟩
  · rw [← Array.any_toList, List.any_eq_true]
    have hl : 0 < n.cps.toList.length := by
      have := h.1
      rw [Array.length_toList]
      exact this
    refine ⟨n.cps.toList[0], List.getElem_mem hl, ?_⟩
    have := h.2.2 _ (List.getElem_mem hl)
    exact (low_az _ this.1 this.2).2.1
  · rw [Bool.not_eq_true', ← Array.any_toList, List.any_eq_false]
    intro c hc
    have := h.2.2 c hc
    have z := low_az c this.1 this.2
    rw [z.2.2.1, z.2.2.2]
    decide
theorem strLt_decide {a b : Str} (h : strLt a b) : (!decide (a.cps.toList < b.cps.toList)) = false := by
  have z : a.cps.toList < b.cps.toList := h
  rw [decide_eq_true z]
  rfl
/-! ### the constants of the program -/
structure Cst (mg : Str → Option Value) : Prop where
  nodes : ∃ t, mg "MOST_NODES" = some (.int 400 t)
  depth : ∃ t, mg "MOST_DEPTH" = some (.int 100 t)
  letters : ∃ t, mg "MOST_LETTERS" = some (.int 8 t)
  least : ∃ t, mg "LEAST_ITEMS" = some (.int 2 t)
  items : ∃ t, mg "MOST_ITEMS" = some (.int 6 t)
  fields : ∃ t, mg "MOST_FIELDS" = some (.int 12 t)
  great : ∃ t, mg "GREATEST" = some (.int (10 ^ 30) t)
theorem rel_int {i : Int} {t : Tok} : RelV (.int i) (Value.int i t) := ⟨t, rfl⟩
end Vt


set_option Elab.async false
set_option linter.all false
set_option maxRecDepth 100000
set_option maxHeartbeats 4000000

namespace Vt
open PySem PySem.Spec PyProof.Rows L2 TL
/-! ### ascending lists of texts -/
theorem cps_inj {a b : Str} (h : a.cps.toList = b.cps.toList) : a = b := by
  obtain ⟨⟨a⟩⟩ := a
  obtain ⟨⟨b⟩⟩ := b
  cases h
  rfl
theorem rising_le : ∀ (l : List Str) (p : Str), risingS p l = true → (p :: l).Pairwise (fun a b => a.cps.toList ≤ b.cps.toList)
  | [], p, _ => by simp
  | x :: r, p, h => by
    simp only [risingS, Bool.and_eq_true, Bool.not_eq_true', PyProof.Rows.ltCps_eq, decide_eq_false_iff_not] at h
    have ih := rising_le r x h.2
    refine List.pairwise_cons.mpr ⟨fun y hy => ?_, ih⟩
    have px : p.cps.toList ≤ x.cps.toList := List.not_lt.mp h.1
    rcases List.mem_cons.mp hy with e | hy
    · rw [e]; exact px
    · exact List.le_trans px ((List.pairwise_cons.mp ih).1 y hy)
theorem sorted_le {l : List Str} (h : sortedS l = true) : l.Pairwise (fun a b => a.cps.toList ≤ b.cps.toList) := by
  cases l with
  | nil => exact .nil
  | cons x r => exact rising_le r x h
theorem sorted_same : ∀ {xs ys : List Str}, xs.Pairwise (fun a b => a.cps.toList ≤ b.cps.toList) → ys.Pairwise (fun a b => a.cps.toList ≤ b.cps.toList) → xs.Nodup → ys.Nodup → (∀ x, x ∈ xs ↔ x ∈ ys) → xs = ys
  | [], [], _, _, _, _, _ => rfl
  | [], y :: ys, _, _, _, _, h => absurd ((h y).mpr List.mem_cons_self) List.not_mem_nil
  | x :: xs, [], _, _, _, _, h => absurd ((h x).mp List.mem_cons_self) List.not_mem_nil
  | x :: xs, y :: ys, p, q, n, m, h => by
    have p' := List.pairwise_cons.mp p
    have q' := List.pairwise_cons.mp q
    have n' := List.nodup_cons.mp n
    have m' := List.nodup_cons.mp m
    have e : x = y := by
      rcases List.mem_cons.mp ((h x).mp List.mem_cons_self) with e | hx
      · exact e
      rcases List.mem_cons.mp ((h y).mpr List.mem_cons_self) with e | hy
      · exact e.symm
      exact cps_inj (List.le_antisymm (p'.1 y hy) (q'.1 x hx))
    subst e
    rw [sorted_same p'.2 q'.2 n'.2 m'.2 fun z => ?_]
    constructor
    · intro hz
      rcases List.mem_cons.mp ((h z).mp (List.mem_cons_of_mem _ hz)) with e | hz'
      · exact absurd (by rw [← e]; exact hz) n'.1
      · exact hz'
    · intro hz
      rcases List.mem_cons.mp ((h z).mpr (List.mem_cons_of_mem _ hz)) with e | hz'
      · exact absurd (by rw [← e]; exact hz) m'.1
      · exact hz'
theorem sorted_eq {xs ys : List Str} (p : sortedS xs = true) (q : sortedS ys = true) (n : xs.Nodup) (m : ys.Nodup) (h : ∀ x, x ∈ xs ↔ x ∈ ys) : xs = ys := sorted_same (sorted_le p) (sorted_le q) n m h
theorem asc_nodup {l : List Str} (h : l.Pairwise strLt) : l.Nodup := by
  refine List.Pairwise.imp (R := strLt) (S := fun a b => a ≠ b) (fun {a b} lt e => ?_) h
  subst e
  exact List.lt_irrefl _ (show a.cps.toList < a.cps.toList from lt)
theorem asc_sorted {xs ys : List Str} (p : ys.Perm xs) (s : sortedS ys = true) (h : xs.Pairwise strLt) : ys = xs :=
  sorted_same (sorted_le s) (h.imp fun {a b} lt => List.le_of_lt (show a.cps.toList < b.cps.toList from lt)) (p.nodup_iff.mpr (asc_nodup h)) (asc_nodup h) fun _ => p.mem_iff
/-! ### texts of small letters -/
def lowS (n : Str) : Prop := ∀ c ∈ n.cps.toList, 97 ≤ c ∧ c ≤ 122
theorem low_ascii {n : Str} (h : lowS n) : Txt.isascii n = true := by
  unfold Txt.isascii
  rw [← Array.all_toList, List.all_eq_true]
  intro c hc
  have := h c hc
  exact decide_eq_true (by omega)
theorem low_alpha {n : Str} (h : lowS n) (h1 : 1 ≤ n.length) : Txt.isalpha n = true := by
  unfold Txt.isalpha
  rw [Bool.and_eq_true]
  refine ⟨decide_eq_true (by omega), ?_⟩
  rw [← Array.all_toList, List.all_eq_true]
  intro c hc
  have := h c hc
  exact (low_az c this.1 this.2).1
theorem low_lower {n : Str} (h : lowS n) (h1 : 1 ≤ n.length) : Txt.islower n = true := by
  unfold Txt.islower
  rw [Bool.and_eq_true]
  refine ⟨?_, ?_⟩
  · rw [← Array.any_toList, List.any_eq_true]
    have hl : 0 < n.cps.toList.length := by
      rw [Array.length_toList]
      exact h1
    refine ⟨n.cps.toList[0], List.getElem_mem hl, ?_⟩
    have := h _ (List.getElem_mem hl)
    exact (low_az _ this.1 this.2).2.1
  · rw [Bool.not_eq_true', ← Array.any_toList, List.any_eq_false]
    intro c hc
    have := h c hc
    have z := low_az c this.1 this.2
    rw [z.2.2.1, z.2.2.2]
    decide
theorem tl_mem_app {a b : Str} {c : Nat} (h : c ∈ (a ++ b).cps.toList) : c ∈ a.cps.toList ∨ c ∈ b.cps.toList := by
  have e : (a ++ b).cps.toList = a.cps.toList ++ b.cps.toList := Array.toList_append
  rw [e] at h
  exact List.mem_append.mp h
theorem low_join : ∀ ys : List Str, (∀ n ∈ ys, lowS n) → lowS (Txt.join "" ys)
  | [], _ => fun c h => by
    rw [join_eq] at h
    exact absurd h (by show c ∉ ([] : List Nat); simp)
  | [x], h => by
    rw [join_eq]
    exact h x List.mem_cons_self
  | x :: y :: r, h => by
    rw [join_eq]
    intro c hc
    have e : Str.join "" (x :: y :: r) = x ++ "" ++ Str.join "" (y :: r) := rfl
    rw [e] at hc
    rcases tl_mem_app hc with hc | hc
    · rcases tl_mem_app hc with hc | hc
      · exact h x List.mem_cons_self c hc
      · exact absurd hc (by show c ∉ ([] : List Nat); simp)
    · have ih := low_join (y :: r) fun n m => h n (List.mem_cons_of_mem _ m)
      rw [join_eq] at ih
      exact ih c hc
theorem join_pos : ∀ {ys : List Str}, ys ≠ [] → (∀ n ∈ ys, 1 ≤ n.length) → 1 ≤ (Txt.join "" ys).length
  | [], h, _ => absurd rfl h
  | [x], _, h => by
    rw [join_eq]
    exact h x List.mem_cons_self
  | x :: y :: r, _, h => by
    rw [join_eq]
    have e : Str.join "" (x :: y :: r) = x ++ "" ++ Str.join "" (y :: r) := rfl
    have := h x List.mem_cons_self
    rw [e, Str.length_append, Str.length_append]
    omega
end Vt


set_option Elab.async false
set_option linter.all false
set_option maxRecDepth 100000
set_option maxHeartbeats 4000000
/-! ### sets of texts: made of a list, sorted (as the library does it for ints) -/
namespace PySem.TX
open PySem PySem.Spec PyProof.Rows L2
/-- an entry that holds a text -/
def TxE (P : Program) (w : World) (e : Int × Value) : Prop := ∃ k tk, e.2 = Value.str k tk ∧ e.1 = (PySem.strKind P w).hash k
abbrev txt (e : Int × Value) : Str := strOf e.2
/-- the set of texts at a: its members are those of zs, at most n; its table can be walked -/
def SetT (P : Program) (w : World) (h : Heap) (a : Addr) (zs : List Str) (n : Nat) : Prop :=
  ∃ o es ep t, h.get? a = some o ∧ o.ExactSet ∧ o.data = .set es ep t ∧ (∀ e ∈ es.toList, TxE P w e) ∧ (es.toList.map txt).Nodup ∧ (∀ k, k ∈ zs ↔ k ∈ es.toList.map txt) ∧ es.size ≤ n ∧ n < scanBound ∧ t.fits es.size = true ∧ Ris t.place.toList ∧ (w.params.followText "set-order" = true ∨ t.led = true)
section
variable {P : Program} {w : World} {h h' : Heap} {a : Addr} {zs : List Str} {n : Nat}
theorem SetT.at (R : SetT P w h a zs n) (k : ∀ o, h.get? a = some o → h'.get? a = some o) : SetT P w h' a zs n := (fun ⟨o, es, ep, t, ho, r⟩ => ⟨o, es, ep, t, k o ho, r⟩) R
theorem tx_elems {l : List (Int × Value)} (g : ∀ e ∈ l, TxE P w e) : ElemsOf (PySem.strKind P w) l := fun e he => (fun ⟨k, tk, h1, h2⟩ => ⟨⟨k, by rw [h1]; exact PySem.strKind_is P w k tk, h2⟩, by rw [h1]; rfl⟩) (g e he)
theorem tx_is {e : Int × Value} (g : TxE P w e) (k : Str) : (PySem.strKind P w).is k e.2 = true ↔ txt e = k := by
  obtain ⟨k0, tk, h1, _⟩ := g
  have e1 := PySem.strKind_is P w k0 tk
  unfold txt
  rw [h1]
  constructor
  · intro z
    exact ((PySem.strKind P w).inj _ _ _ z e1).symm
  · intro z
    cases z
    exact e1
theorem tx_mem {l : List (Int × Value)} (g : ∀ e ∈ l, TxE P w e) (k : Str) : k ∈ l.map txt ↔ ∃ e ∈ l, (PySem.strKind P w).is k e.2 = true := by
  rw [List.mem_map]
  exact ⟨fun ⟨e, m, q⟩ => ⟨e, m, (tx_is (g e m) k).mpr q⟩, fun ⟨e, m, q⟩ => ⟨e, m, (tx_is (g e m) k).mp q⟩⟩
end
section
variable {P : Program} {w : World} {A : Around} {E : Value → Shared → Prop} {s : Shared} {a : Addr} {zs : List Str} {n : Nat}
/-- the store, and the new table where the old one is too full -/
theorem tx_tail {g : Bool → Sem Unit} (hg : ∀ (b : Bool) (s₁ : Shared) (Q' : Unit → Shared → Prop), Q' () s₁ → wpAny (model P w) A (g b) Q' E s₁) {o : Obj} {es es1 : Array (Int × Value)} {ep : Nat} {t t2 : SetTable} (ho : s.heap.get? a = some o) (hex : o.ExactSet) (hd : o.data = .set es ep t)
    (g1 : ∀ e ∈ es1.toList, TxE P w e) (nd1 : (es1.toList.map txt).Nodup) (m1 : ∀ k, k ∈ zs ↔ k ∈ es1.toList.map txt) (hn : es1.size ≤ n) (hb : n < scanBound) (hf2 : t2.fits es1.size = true) (hr : Ris t2.place.toList) (hl : w.params.followText "set-order" = true ∨ t2.led = true) {wasDummy : Bool} {R : Option Bool → Shared → Prop}
    (hR : ∀ h', Heap.SameBut a s.heap h' → SetT P w h' a zs n → R (some true) { s with heap := h' }) :
    wpAny (model P w) A (do
        storeSet a es1 t2
        if (!wasDummy && t2.tooFull) = true then do
            g (relayAll t2 es1 (SetTable.grown es1.size)).2.2
            storeSet a (relayAll t2 es1 (SetTable.grown es1.size)).1 (relayAll t2 es1 (SetTable.grown es1.size)).2.1
            pure (some true)
          else pure (some true)) R E s := by
  have b1 : es1.size < scanBound := Nat.lt_of_le_of_lt hn hb
  refine wpAny_bind (wpAny_storeSet_of ho hd ?_ (fits_of_scanBound b1))
  have o1 := L2.store_at (es' := es1) (t' := t2) ho hd
  have k1 := Heap.SameBut.update s.heap a (Obj.putSet es1 t2)
  split
  · have pm := relayAll_perm t2 es1 (SetTable.grown es1.size)
    have f3 := relayAll_fits t2 es1 (SetTable.grown es1.size)
    have r3 := L2.relayAll_ris t2 es1 (SetTable.grown es1.size)
    have l3 := L2.relayAll_led t2 es1 (SetTable.grown es1.size)
    generalize relayAll t2 es1 (SetTable.grown es1.size) = Z at pm f3 r3 l3 ⊢
    obtain ⟨es2, t3, gave⟩ := Z
    dsimp only at pm f3 r3 l3 ⊢
    have z2 : es2.size = es1.size := by rw [← Array.length_toList, pm.length_eq, Array.length_toList]
    refine wpAny_bind (hg _ _ _ (wpAny_bind (wpAny_storeSet_of o1 rfl (wpAny_pure (hR _ (k1.trans (Heap.SameBut.update _ a _)) ?_)) (fits_of_scanBound (by rw [z2]; exact b1)))))
    exact ⟨_, es2, _, t3, L2.store_at (es' := es2) (t' := t3) o1 rfl, hex, rfl, fun e he => g1 e (pm.mem_iff.mp he), (pm.map txt).nodup_iff.mpr nd1, fun k => (m1 k).trans (pm.map txt).mem_iff.symm, by rw [z2]; exact hn, hb, f3, r3, hl.imp id fun z => by rw [l3]; exact z⟩
  · exact wpAny_pure (hR _ k1 ⟨_, es1, _, t2, o1, hex, rfl, g1, nd1, m1, hn, hb, hf2, hr, hl⟩)
/-- one text more -/
theorem tx_add {k : Str} {tk : Tok} {Q : Bool → Shared → Prop} (R : SetT P w s.heap a zs n) (room : n + 1 < scanBound) (hQ : ∀ h' b, Heap.SameBut a s.heap h' → SetT P w h' a (zs ++ [k]) (n + 1) → Q b { s with heap := h' }) :
    wpAny (model P w) A (setAddHashed a (.str k tk) ((PySem.strKind P w).hash k)) Q E s := by
  obtain ⟨o, es, ep, t, ho, hex, hd, g, nd, hm, hn, hb, hf, hr, hl⟩ := R
  have key : (PySem.strKind P w).is k (.str k tk) = true := PySem.strKind_is P w k tk
  have sc : (Value.str k tk).scannable = true := rfl
  have el : ElemsOf (PySem.strKind P w) es.toList := tx_elems g
  have esb : es.size < scanBound := Nat.lt_of_le_of_lt hn hb
  unfold setAddHashed setAddHashedIn
  refine wpAny_holding (wpAny_bind (wpAny_setState_of ho hd hf ?_))
  dsimp only
  rw [byScan_of sc esb el]
  simp only [↓reduceIte]
  unfold setAddByScan
  refine wpAny_bind (wpAny_bind (wpAny_rule (wpAny_bind (wpAny_setScan_of key ho hd hf el ?_))))
  cases hfi : List.findIdx? (fun e => (PySem.strKind P w).is k e.2) es.toList with
  | some j =>
    dsimp only
    obtain ⟨hj, pj, _⟩ := List.findIdx?_eq_some_iff_getElem.mp hfi
    have old : k ∈ zs := (hm k).mpr ((tx_mem (P := P) (w := w) g k).mpr ⟨es.toList[j], List.getElem_mem hj, pj⟩)
    refine wpAny_pure (wpAny_pure ?_)
    exact hQ s.heap _ (Heap.SameBut.refl a s.heap) ⟨o, es, ep, t, ho, hex, hd, g, nd, fun i => by
      rw [← hm i, List.mem_append, List.mem_singleton]
      exact ⟨fun z => z.elim id fun e => by rw [e]; exact old, .inl⟩, by omega, room, hf, hr, hl⟩
  | none =>
    dsimp only
    have fresh : k ∉ es.toList.map txt := fun z => by
      obtain ⟨e, he, q⟩ := (tx_mem (P := P) (w := w) g k).mp z
      have c := List.findIdx?_eq_none_iff.mp hfi e he
      rw [q] at c
      cases c
    have way : ∀ (b : Bool) {s₁ : Shared} {Q' : Unit → Shared → Prop}, Q' () s₁ → wpAny (model P w) A (match b with | true => rule "set.scan.the-table-gave-way" | false => pure ()) Q' E s₁ := fun b s₁ Q' q => by (cases b; exact wpAny_pure q; exact wpAny_rule q)
    have pm := layNew_perm t es ((PySem.strKind P w).hash k) (.str k tk)
    have f1 := layNew_fits t es ((PySem.strKind P w).hash k) (.str k tk)
    have r1 := L2.layNew_ris t es ((PySem.strKind P w).hash k) (.str k tk) hr
    have l1 := L2.layNew_led t es ((PySem.strKind P w).hash k) (.str k tk)
    generalize layNew t es ((PySem.strKind P w).hash k) (.str k tk) = Z at pm f1 r1 l1 ⊢
    obtain ⟨es1, t1, wasDummy, gave⟩ := Z
    dsimp only at pm f1 r1 l1 ⊢
    rw [Array.toList_push] at pm
    have pc : es1.toList.Perm (((PySem.strKind P w).hash k, Value.str k tk) :: es.toList) := pm.trans (List.perm_append_singleton _ _)
    have pk : (es1.toList.map txt).Perm (k :: es.toList.map txt) := pc.map txt
    have g1 : ∀ e ∈ es1.toList, TxE P w e := fun e he => (List.mem_cons.mp (pc.mem_iff.mp he)).elim (fun z => by rw [z]; exact ⟨k, tk, rfl, rfl⟩) fun z => g e z
    have nd1 : (es1.toList.map txt).Nodup := pk.nodup_iff.mpr (List.nodup_cons.mpr ⟨fresh, nd⟩)
    have m1 : ∀ i, i ∈ zs ++ [k] ↔ i ∈ es1.toList.map txt := fun i => by
      rw [pk.mem_iff, List.mem_cons, List.mem_append, List.mem_singleton, hm i]
      exact Or.comm
    have z1 : es1.size = es.size + 1 := by rw [← Array.length_toList, pc.length_eq, List.length_cons, Array.length_toList]
    have led : w.params.followText "set-order" = true ∨ t1.led = true := hl.imp id fun z => by rw [l1]; exact z
    refine wpAny_bind (way _ ?_)
    split
    · refine wpAny_bind ?_
      rw [hashByValue_scannable 8 sc]
      refine wpAny_pure (tx_tail ?_ ho hex hd g1 nd1 m1 (by omega) room ?_ ?_ ?_ ?_)
      · intro b s₁ Q' q; (cases b; exact wpAny_pure q; exact wpAny_rule q)
      · first | (split <;> first | exact f1 | exact SetTable.fits_plain_off f1) | exact f1
      · first | (split <;> exact r1) | exact r1
      · first | (split <;> exact led) | exact led
      · exact fun h' sb r => wpAny_pure (hQ h' _ sb r)
    · refine wpAny_bind (wpAny_pure ?_)
      simp only [↓reduceIte]
      refine tx_tail ?_ ho hex hd g1 nd1 m1 (by omega) room f1 r1 led fun h' sb r => wpAny_pure (hQ h' _ sb r)
      intro b s₁ Q' q; (cases b; exact wpAny_pure q; exact wpAny_rule q)
end
end PySem.TX


set_option Elab.async false
set_option linter.all false
set_option maxRecDepth 100000
set_option maxHeartbeats 4000000
namespace PySem.TX
open PySem PySem.Spec PyProof.Rows L2
section
variable {P : Program} {w : World} {A : Around} {R : Result → Shared → Prop} {I : Addr} {fp wr : List Addr} {G : Array GenState → Array GenState → Prop} {n : Nat} {Pv : Nat → Value → Prop} {St : Nat → Shared → Prop}
/-- all that an iterator yields is added -/
theorem tx_loop (W : WalksS P w A.in1 I fp wr G n Pv St) (S : Addr) (hSf : S ∉ fp) (xs : List Str) (hlen : xs.length = n) (hval : ∀ i v, Pv i v → ∃ x t, xs[i]? = some x ∧ v = .str x t) (hb : n < scanBound) :
    ∀ (k i : Nat) (s : Shared), n - i = k → i ≤ n → St i s → SetT P w s.heap S (xs.take i) i → (∀ s', Moved (S :: wr) G s s' → SetT P w s'.heap S xs n → R (.ok (.ret .none)) s') →
      codeAny (model P w) A (.builtin "set.update.loop" ⟨[.ref S, .ref I], []⟩) R s := by
  have notW : S ∉ wr := fun h => hSf (W.sub _ h)
  have more : ∀ b ∈ wr, b ∈ S :: wr := fun b hb => List.mem_cons_of_mem _ hb
  intro k
  induction k with
  | zero =>
    intro i s hk hi hst hS hR
    obtain rfl : i = n := by omega
    refine codeAny_builtin PyProof.Rows.F.entry_set_update_loop ?_
    rw [Around.under_plainId PyProof.Rows.F.plain_set_update_loop _]
    show wpAny _ A.in1 (pyNext (.ref I) >>= _) _ _ s
    refine wpAny_bind (W.done s _ _ hst fun s1 hm => (show wpAny _ A.in1 (ret Value.none) _ _ s1 from wpAny_pure (hR s1 (hm.mono more) ?_)))
    rw [List.take_of_length_le (by omega)] at hS
    exact hS.at fun o e => hm.heap S _ notW e
  | succ k ih =>
    intro i s hk hi hst hS hR
    have lt : i < n := by omega
    refine codeAny_builtin PyProof.Rows.F.entry_set_update_loop ?_
    rw [Around.under_plainId PyProof.Rows.F.plain_set_update_loop _]
    show wpAny _ A.in1 (pyNext (.ref I) >>= _) _ _ s
    refine wpAny_bind (W.item i s _ _ lt hst fun v s1 hP hst1 hm => ?_)
    obtain ⟨x, t, ex, rfl⟩ := hval i v hP
    have hS1 : SetT P w s1.heap S (xs.take i) i := hS.at fun o e => hm.heap S _ notW e
    show wpAny _ A.in1 (holding [Value.str x t] (setAdd S (.str x t)) >>= _) _ _ s1
    refine wpAny_bind (wpAny_holding ?_)
    unfold setAdd
    refine wpAny_holding (wpAny_bind ((PySem.strKind P w).pyHash (k := x) (PySem.strKind_is _ _ _ _) ?_))
    refine tx_add (s := { s1 with toks := s1.toks + 1 }) hS1 (by omega) fun h2 b sb hS2 => ?_
    have hS3 : SetT P w h2 S (xs.take (i + 1)) (i + 1) := by
      rw [List.take_add_one, ex]
      exact hS2
    refine wpAny_pure ⟨plainId_quiet PyProof.Rows.F.plain_set_update_loop _, ih (i + 1) _ (by omega) lt (W.frame _ s1 _ _ hst1 (Nat.le_succ _) fun b hb o e => ?_) hS3 fun s3 hm3 hS4 => hR s3 (Moved.trans W.gtrans ((hm.mono more).then_heap (Nat.le_succ _) fun b o hb e => ?_) hm3) hS4⟩
    · exact (sb.2 b fun z => hSf (by rw [← z]; exact hb)).trans e
    · exact (sb.2 b fun z => hb (by rw [z]; exact List.mem_cons_self)).trans e
end
section
variable {P : Program} {w : World} {A : Around} {E : Value → Shared → Prop} {s : Shared}
/-- a new set, its mark as the world has it -/
theorem tx_new (a : Value) {Q₁ : Value → Shared → Prop} (h : Q₁ (.ref s.heap.objs.size) { s with heap := s.heap.push { cls := .type "set", dict := none, data := .set #[] 0 (.fresh 0 0 (!w.params.followText "set-order")) } }) :
    codeAny (model P w) A (.call (.builtin "set.__new__") ⟨[.type "set", a], []⟩) (wants Q₁ E) s := by
  refine codeAny_of_tree (show wpAny _ A.in1 (do checkBuiltinCall "set.__new__" ⟨[.type "set", a], []⟩; again (.builtin "set.__new__" ⟨[.type "set", a], []⟩)) _ _ s from ?_)
  refine wpAny_bind (wpAny_of_eq (PySem.F.newCall_set_1 a) (wpAny_pure ⟨plainId_quiet F.plain_set_new _, codeAny_builtin F.entry_set_new ?_⟩))
  rw [Around.under_plainId F.plain_set_new _]
  unfold Builtin.«set.__new__» Builtin.Frozenset.newClass
  have sub := sub_set_self
  obtain ⟨hp, g, d, tk, os⟩ := s
  dsimp only
  wp_walk
  refine wpAny_askSetting (wpAny_pure ?_)
  dsimp only
  simp only [newObj]
  exact wpAny_bind (wpAny_alloc (wpAny_pure (wpAny_pure h)))
theorem tx_fresh {h : Heap} : SetT P w (h.push { cls := .type "set", dict := none, data := .set #[] 0 (.fresh 0 0 (!w.params.followText "set-order")) }) h.objs.size [] 0 :=
  ⟨_, #[], 0, _, Heap.get?_push_size _ rfl, ⟨rfl, rfl, rfl⟩, rfl, (fun e he => by simp at he), (by simp), (fun k => by simp), (Nat.le_refl _), (by decide), (by rfl), List.Pairwise.nil, by
    show _ ∨ (!w.params.followText "set-order") = true
    cases w.params.followText "set-order" <;> simp⟩
end
end PySem.TX


set_option Elab.async false
set_option linter.all false
set_option maxRecDepth 100000
set_option maxHeartbeats 4000000
namespace PySem.TX
open PySem PySem.Spec PyProof.Rows L2
theorem strs_get : ∀ {us : List Value} {xs : List Str}, StrsAre us xs → ∀ (i : Nat) (v : Value), us[i]? = some v → ∃ x t, xs[i]? = some x ∧ v = .str x t
  | _, _, .nil, i, v, h => by simp at h
  | _, _, .cons x t r, 0, v, h => ⟨x, t, rfl, (Option.some.inj h).symm⟩
  | _, _, .cons x t r, i + 1, v, h => strs_get r i v (by simpa using h)
section
variable {P : Program} {w : World} {A : Around} {E : Value → Shared → Prop} {s : Shared}
set_option maxHeartbeats 8000000 in
/-- set(xs), xs a list of texts -/
theorem tx_call {l : Addr} {items : Array Value} {xs : List Str} {Q : Value → Shared → Prop} (hh : A.handled = none) (hl : s.heap.IsList l items) (hi : StrsAre items.toList xs) (hb : items.size < scanBound)
    (h : ∀ (h' : Heap) (tk : Nat), SetT P w h' s.heap.objs.size xs items.size → (∀ b o, b < s.heap.objs.size → s.heap.get? b = some o → h'.get? b = some o) → Q (.ref s.heap.objs.size) { s with heap := h', toks := tk }) :
    wpAny (model P w) A (call (.type "set") [.ref l]) Q E s := by
  obtain ⟨cc, tl, hmro⟩ := PySem.F.called_set.mro
  have made := PySem.F.called_set.made
  have sub := PySem.F.called_set.sub
  refine wpAny_call (codeAny_of_tree (show wpAny _ _ (callAny (.type "set") _) _ _ _ from ?_))
  refine wpAny_pure ⟨Code.quiet_builtin _ (by decide +kernel), codeAny_builtin PySem.F.entry_type_call ?_⟩
  rw [Around.under_plain (weight_type_call_type "set" [.ref l] []) rfl]
  have no := PySem.F.called_set.notType
  have can := PySem.F.called_set.canCreate
  have chk := PySem.F.typeCall_set_1 (.ref l)
  repeat (any_goals (first | assumption | wp_step))
  let O : Obj := { cls := .type "set", dict := none, data := .set #[] 0 (.fresh 0 0 (!w.params.followText "set-order")) }
  refine codeAny_mono (tx_new (P := P) (w := w) (.ref l) (E := E) (Q₁ := fun obj s₁ => obj = .ref s.heap.objs.size ∧ s₁ = { s with heap := s.heap.push { cls := .type "set", dict := none, data := .set #[] 0 (.fresh 0 0 (!w.params.followText "set-order")) } }) ⟨rfl, rfl⟩) fun r s₁ hr => ?_
  clear O
  cases r with
  | error e => exact hr
  | ok fl =>
    cases fl with
    | ret obj =>
      obtain ⟨rfl, rfl⟩ := hr
      have fr : SetT P w (s.heap.push { cls := .type "set", dict := none, data := .set #[] 0 (.fresh 0 0 (!w.params.followText "set-order")) }) s.heap.objs.size [] 0 := tx_fresh
      have hS : (s.heap.push { cls := .type "set", dict := none, data := .set #[] 0 (.fresh 0 0 (!w.params.followText "set-order")) }).get? s.heap.objs.size = some { cls := .type "set", dict := none, data := .set #[] 0 (.fresh 0 0 (!w.params.followText "set-order")) } := Heap.get?_push_size _ rfl
      generalize (!w.params.followText "set-order") = led at hS fr ⊢
      have hT : Shared.TypeIs { s with heap := s.heap.push { cls := .type "set", dict := none, data := .set #[] 0 (.fresh 0 0 led) } } (.ref s.heap.objs.size) "set" := ⟨_, hS, rfl⟩
      have li := PySem.F.called_set.init.lookup
      have bi := PySem.F.called_set.init.bind (.ref s.heap.objs.size)
      repeat (any_goals (first | assumption | wp_step))
      refine codeAny_mono (codeAny_call_builtin (R := wants (fun r s₂ => r = .none ∧ ∃ h' tk, s₂ = { s with heap := h', toks := tk } ∧ SetT P w h' s.heap.objs.size xs items.size ∧ (∀ b o, b < s.heap.objs.size → s.heap.get? b = some o → h'.get? b = some o)) E) PySem.F.called_set.init.plain PySem.F.entry_set_init (check_set_init_1 hT ?_)) fun r₂ s₂ hr₂ => ?_
      · obtain ⟨ol, hol, hcl, nl, hdl⟩ := hl
        obtain ⟨oc, od, oda, osl⟩ := ol
        simp only at hcl hdl
        subst hcl; subst hdl
        have hol1 : (s.heap.push { cls := .type "set", dict := none, data := .set #[] 0 (.fresh 0 0 led) }).get? l = some { cls := .type "list", dict := od, data := .seq items nl, slots := osl } := Heap.get?_push_of_some _ hol
        have d1 := PySem.F.sub_list_set
        have d2 := PySem.F.sub_list_frozenset
        have d3 : (Value.type "list" == Value.type "dict") = false := by decide
        have hl1 : (s.heap.push { cls := .type "set", dict := none, data := .set #[] 0 (.fresh 0 0 led) }).IsList l items := ⟨_, hol1, rfl, nl, rfl⟩
        unfold Builtin.«set.__init__» noKeywords Builtin.Frozenset.updateFrom
        generalize hPI : pyIter = PI
        wp_walk
        subst hPI
        refine wpAny_pyIter_list hl1 (wpAny_bind (wpAny_runValue ?_))
        have hlS : l < s.heap.objs.size := Heap.lt_size hol
        have h3 : A.in1.in1.in1.handled = none := by simp [hh]
        have ez : (s.heap.push { cls := .type "set", dict := none, data := .set #[] 0 (.fresh 0 0 led) }).objs.size = s.heap.objs.size + 1 := Heap.size_push _ _
        have neI : l ≠ (s.heap.push { cls := .type "set", dict := none, data := .set #[] 0 (.fresh 0 0 led) }).objs.size := by
          rw [ez]
          exact Nat.ne_of_lt (Nat.lt_succ_of_lt hlS)
        have notF : s.heap.objs.size ∉ [(s.heap.push { cls := .type "set", dict := none, data := .set #[] 0 (.fresh 0 0 led) }).objs.size, l] := by
          rw [ez]
          simp only [List.mem_cons, List.not_mem_nil, or_false, not_or]
          exact ⟨Nat.ne_of_lt (Nat.lt_succ_self _), Nat.ne_of_gt hlS⟩
        have hlen : xs.length = items.size := by rw [← StrsAre.len_eq hi, Array.length_toList]
        refine tx_loop (P := P) (w := w) ((Walks.list h3 _ l neI items).toS) s.heap.objs.size notF xs hlen (fun i v hv => strs_get hi i v (by rw [Array.getElem?_toList]; exact hv)) hb (items.size - 0) 0 _ (by omega) (Nat.zero_le _) ⟨⟨_, Heap.get?_push_size _ rfl, rfl, rfl⟩, (hl1.push _)⟩ ?hS0 ?hR
        case hS0 => exact fr.at fun o e => Heap.get?_push_of_some _ e
        case hR =>
          intro s1 hm hS1
          obtain ⟨h1, g1, d1, tk1, os1⟩ := s1
          cases (show g1 = s.gens from hm.gens)
          cases (show d1 = s.drawn from hm.drawn)
          cases (show os1 = s.os from hm.os)
          show wpAny _ _ _ _ _ _
          refine wpAny_pure (show wpAny _ _ (ret Value.none) _ _ _ from wpAny_pure ⟨rfl, h1, tk1, rfl, hS1, fun b o hb1 e => ?_⟩)
          refine hm.heap b o ?_ (Heap.get?_push_of_some _ (Heap.get?_push_of_some _ e))
          rw [ez]
          simp only [List.mem_cons, List.not_mem_nil, or_false, not_or]
          exact ⟨Nat.ne_of_lt hb1, Nat.ne_of_lt (Nat.lt_succ_of_lt hb1)⟩
      · cases r₂ with
        | error e => exact hr₂
        | ok fl₂ =>
          cases fl₂ with
          | ret r =>
            obtain ⟨rfl, h1, tk1, rfl, hS1, hk1⟩ := hr₂
            repeat (any_goals (first | assumption | wp_step))
            exact h _ _ hS1 hk1
          | _ => exact hr₂.elim
    | _ => exact hr.elim
/-- sorted(found) of such a set -/
theorem tx_sorted {a : Addr} {zs : List Str} {n : Nat} {Q : Value → Shared → Prop} (R : SetT P w s.heap a zs n) (hh : A.handled = none)
    (hQ : ∀ s' p (out : Array Value) (c : Nat) (ys : List Str), (∀ b o, s.heap.get? b = some o → s'.heap.get? b = some o) → s'.gens = s.gens → s'.os = s.os → s.heap.objs.size ≤ p → s'.heap.get? p = some (seqObj "list" out c) → StrsAre out.toList ys → sortedS ys = true → ys.Nodup → (∀ k, k ∈ ys ↔ k ∈ zs) → ys.length ≤ n → Q (.ref p) s') :
    wpAny (model P w) A (call (.builtin "sorted") [.ref a]) Q E s := by
  obtain ⟨o, es, ep, t, ho, hex, hd, g, nd, hm, hn, hb, hf, hr, hl⟩ := R
  have esb : es.size < scanBound := Nat.lt_of_le_of_lt hn hb
  refine Calls.call_function_entry kind_sorted plain_sorted entry_sorted (args_sorted1 _) ?_
  unfold Builtin.«sorted»
  refine wpAny_bind (m := checkCount "sorted" 1 1 _) (wpAny_pure (wpAny_bind (L2.collect_set (A := A.in1) hh ⟨o, ho, hex.1, hd⟩ hf esb hr hl fun s1 vs k1 hz g1 o1 pm => ?_)))
  have vl : vs.length ≤ sizeLine := by rw [pm.length_eq, List.length_map, Array.length_toList]; exact fits_of_scanBound esb
  have hS : StrsAre vs (vs.map strOf) := strsAre_map vs fun v hv => by
    obtain ⟨e, he, q⟩ := List.mem_map.mp (pm.mem_iff.mp hv)
    obtain ⟨k, tk, h1, _⟩ := g e he
    exact ⟨k, tk, by rw [← q]; exact h1⟩
  have pk : (vs.map strOf).Perm (es.toList.map txt) := by
    have q := pm.map strOf
    rw [List.map_map] at q
    exact q
  refine wpAny_bind (wpAny_newList ?_ vl)
  have hoL : (s1.heap.push (seqObj "list" vs.toArray 0)).get? s1.heap.objs.size = some (seqObj "list" vs.toArray 0) := Heap.get?_push_size _ rfl
  refine wpAny_bind (wpAny_holding (wpAny_call_entry slot_list_sort ⟨_, hoL, rfl⟩ entry_list_sort (list_sort_treeKAny strKind_oneLt hoL hS.keysOf (fun v1 v2 rest e => keyKind_strs (by rw [← e]; exact hS)) vl fun st a1 a2 => ⟨_, rfl, ?_⟩) (args_list_sort _)))
  obtain ⟨ys, y1, y2, y3⟩ := sorted_out_str hS a1 a2
  obtain ⟨c, hc⟩ := sortedHeap_at (vs := vs) (out := (arrOf st).map (·.2)) hoL
  have pn : ys.Perm (es.toList.map txt) := y2.trans pk
  refine wpAny_pure ⟨_, rfl, hQ _ s1.heap.objs.size _ c ys (fun b u e => ?_) g1 o1 hz hc y1 y3 (pn.nodup_iff.mpr nd) (fun k => by rw [pn.mem_iff, ← hm k]) (by rw [pn.length_eq, List.length_map, Array.length_toList]; exact hn)⟩
  have q := k1 b u e
  have lt := Heap.lt_size q
  show (sortedHeap (s1.heap.push (seqObj "list" vs.toArray 0)) s1.heap.objs.size vs _).get? b = some u
  rw [sortedHeap_old (Nat.ne_of_lt lt) (by rw [size_push']; exact Nat.lt_succ_of_lt lt)]
  exact Heap.get?_push_of_some _ q
end
end PySem.TX


set_option Elab.async false
set_option linter.all false
set_option maxRecDepth 100000
set_option maxHeartbeats 4000000

namespace Vt
open PySem PySem.Spec PyProof.Rows L2 PySem.TX
/-! ### set(xs) and len(set(xs)), xs a list of texts -/
/-- the set of texts at a -/
def SetX (P : Program) (w : World) (a : Addr) (zs : List Str) (n : Nat) : HO := .ext fun h => SetT P w h a zs n
theorem setX_new {w : World} {P : Program} {H : Hp} {h : Heap} {a : Addr} {zs : List Str} {n : Nat} (R : SetT P w h a zs n) : ObjOk P w H h a (SetX P w a zs n) :=
  (fun ⟨o, _, _, _, ho, _⟩ => ⟨R, ⟨o, ho⟩, fun h1 h2 p k => p.at k⟩) R
def rSetTx (K : PySem.W.Frag) (P : Program) (w : World) : List V → Hp → VK → Prop := fun xs H Q => ∃ (l : Addr) (zs : List Str), xs = [V.ref l] ∧ SqL K H l (zs.map V.str) ∧ zs.length < 4000 ∧ ∀ p, H p = none → Q (.ref p) (upd H p (SetX P w p zs zs.length))
def rSortTx (P : Program) (w : World) : List V → Hp → VK → Prop := fun vs H Q => ∃ (a : Addr) (zs : List Str) (n : Nat), vs = [V.ref a] ∧ H a = some (SetX P w a zs n) ∧ n < 4000 ∧ ∀ (ys : List Str) (p : Addr), sortedS ys = true → ys.Nodup → (∀ k, k ∈ ys ↔ k ∈ zs) → H p = none → Q (.ref p) (upd H p (.lst (ys.map V.str)))
def rLenTx (P : Program) (w : World) : List V → Hp → VK → Prop := fun vs H Q => ∃ (a : Addr) (zs : List Str) (n : Nat), vs = [V.ref a] ∧ H a = some (SetX P w a zs n) ∧ zs.Nodup ∧ n < 4000 ∧ Q (.int zs.length) H
section
variable {X : Cx}
theorem cr_setTx (hc : X.calm = true) : CallR X (.type "set") (rSetTx X.K X.prog X.w) := by
  rintro pins s σ H vs us Q I r ⟨l, zs, rfl, hl, hz, q⟩
  obtain ⟨its, rv, pl, _⟩ := I.list hl
  rw [Vals.ref1 r]
  have len := rv.length
  rw [List.length_map] at len
  refine tx_call (P := X.prog) (w := X.w) (I.ok.hd hc) pl.isList rv.strs (by rw [List.size_toArray, ← len]; unfold scanBound; omega) fun h1 tk hS hk => ?_
  have ez : its.toArray.size = zs.length := by rw [List.size_toArray, len]
  rw [ez] at hS
  exact ⟨.ref _, upd H s.heap.objs.size (SetX X.prog X.w s.heap.objs.size zs zs.length), I.laid (t' := tk) (fun b u e => hk b u (Heap.lt_size e) e) (Nat.le_refl _) (setX_new hS), rfl, q _ (I.hok.fresh (Nat.le_refl _))⟩
theorem cr_lenTx : CallR X (.builtin "len") (rLenTx X.prog X.w) := by
  rintro pins s σ H vs us Q I r ⟨a, zs, n, rfl, ha, hnd, hn, q⟩
  have R : SetT X.prog X.w s.heap a zs n := (I.hok a _ ha).1
  rw [Vals.ref1 r]
  obtain ⟨o, es, ep, t, ho, hex, hd, g, nd, hm, hz, hb, hf, hr, hl⟩ := R
  have e : es.size = zs.length := by
    have p : (es.toList.map txt).Perm zs := (List.perm_ext_iff_of_nodup nd hnd).mpr fun k => (hm k).symm
    have := p.length_eq
    rw [List.length_map, Array.length_toList] at this
    exact this
  refine call_len_set ho hex hd hf (by omega) ⟨.int zs.length, H, I.tok _, ⟨_, by rw [e]⟩, q⟩
theorem cr_sortedTx (hc : X.calm = true) : CallR X (.builtin "sorted") (rSortTx X.prog X.w) := by
  rintro pins s σ H vs us Q I r ⟨a, zs, n, rfl, ha, hn, q⟩
  have R : SetT X.prog X.w s.heap a zs n := (I.hok a _ ha).1
  rw [Vals.ref1 r]
  refine tx_sorted R (I.ok.hd hc) fun s1 p out c ys k g o hp hg hi hs hnd hm hl => ?_
  have hlen : (ys.map V.str).length ≤ sizeLine := by rw [List.length_map, sizeLine_eq]; omega
  have free : H p = none := I.hok.fresh hp
  have J : Inv X pins σ (upd H p (.lst (ys.map V.str))) { s with heap := s1.heap, gens := s1.gens, drawn := s1.drawn, toks := s1.toks } :=
    I.call (ch := []) (Un.laid k hp free) (I.hok.laid k hp ⟨hlen, out.toList, c, vals_of_strs hi, hg⟩) (by rw [g]; exact I.bare) (fun _ z => nomatch z)
  have e : s1 = { s with heap := s1.heap, gens := s1.gens, drawn := s1.drawn, toks := s1.toks } := by
    cases s1; cases s; cases o
    rfl
  rw [e]
  exact ⟨.ref p, _, J, rfl, q ys p hs hnd hm free⟩
end
end Vt


set_option Elab.async false
set_option linter.all false
set_option maxRecDepth 100000
set_option maxHeartbeats 4000000

namespace Vt
open PySem PySem.Spec PyProof.Rows L2 TL
/-! ### the constants of the program's trees -/
structure CstT (mg : Str → Option Value) : Prop where
  nodes : ∃ t, mg "MOST_NODES" = some (.int 1000 t)
  depth : ∃ t, mg "MOST_DEPTH" = some (.int 100 t)
  letters : ∃ t, mg "MOST_LETTERS" = some (.int 8 t)
  least : ∃ t, mg "LEAST_ITEMS" = some (.int 2 t)
  items : ∃ t, mg "MOST_ITEMS" = some (.int 6 t)
  fields : ∃ t, mg "MOST_FIELDS" = some (.int 400 t)
  great : ∃ t, mg "GREATEST_MARK" = some (.int 999 t)
/-! ### what is a name, a field, an integer in a range -/
def spAsc (K : PySem.W.Frag) : Sp := fun vs H Q _ => ∃ (l : Addr) (ls : List Str), vs = [.ref l] ∧ SqL K H l (ls.map V.str) ∧ ls.length ≤ 60 ∧ (∀ n ∈ ls, isName n) ∧ ls.Pairwise strLt ∧ ∀ H', Same H H' → Q (.bl true) H'
def spAreNames (K : PySem.W.Frag) : Sp := fun vs H Q _ => ∃ (l : Addr) (ls : List Str), vs = [.ref l] ∧ SqL K H l (ls.map V.str) ∧ ls.length ≤ 60 ∧ (∀ n ∈ ls, isName n) ∧ ∀ H', Same H H' → Q (.bl true) H'
def spAreFields (K : PySem.W.Frag) : Sp := fun vs H Q _ => ∃ (l : Addr) (bs : List Addr) (ls : List Str) (us : List V), vs = [.ref l, .int 400] ∧ SqL K H l (bs.map V.ref) ∧ bs.length ≤ 60 ∧ ls.length = bs.length ∧ us.length = bs.length ∧
  (∀ (i : Nat) (b : Addr) (n : Str) (u : V), bs[i]? = some b → ls[i]? = some n → us[i]? = some u → SqT K H b [.str n, u]) ∧ (∀ n ∈ ls, isName n) ∧ ls.Pairwise strLt ∧ ∀ H', Same H H' → Q (.bl true) H'
def spAreItems (K : PySem.W.Frag) : Sp := fun vs H Q _ => ∃ (l : Addr) (xs : List V), vs = [.ref l] ∧ SqL K H l xs ∧ 2 ≤ xs.length ∧ xs.length ≤ 6 ∧ ∀ H', Same H H' → Q (.bl true) H'
def spIsInt : Sp := fun vs H Q _ => ∃ i : Int, vs = [.int i] ∧ ∀ H', Same H H' → Q (.bl true) H'
def spWithin : Sp := fun vs H Q _ => ∃ i lo hi : Int, vs = [.int i, .int lo, .int hi] ∧ lo ≤ i ∧ i ≤ hi ∧ ∀ H', Same H H' → Q (.bl true) H'
abbrev s_is_integer : Stmt := topS 5
abbrev N_is_integer : List Str := ["value"]
theorem sc_is_integer : FnScope N_is_integer ["value"] (defScope s_is_integer) := ⟨rfl, rfl, rfl, by decide +kernel, rfl, by decide +kernel, by decide +kernel⟩
abbrev s_is_integer_within : Stmt := topS 6
abbrev N_is_integer_within : List Str := ["value", "least", "greatest"]
theorem sc_is_integer_within : FnScope N_is_integer_within ["value", "least", "greatest"] (defScope s_is_integer_within) := ⟨rfl, rfl, rfl, by decide +kernel, rfl, by decide +kernel, by decide +kernel⟩
abbrev s_are_names : Stmt := topS 11
abbrev N_are_names : List Str := ["values", "value", "letters"]
theorem sc_are_names : FnScope N_are_names ["values"] (defScope s_are_names) := ⟨rfl, rfl, rfl, by decide +kernel, rfl, by decide +kernel, by decide +kernel⟩
abbrev s_are_ascending : Stmt := topS 12
abbrev N_are_ascending : List Str := ["names"]
theorem sc_are_ascending : FnScope N_are_ascending ["names"] (defScope s_are_ascending) := ⟨rfl, rfl, rfl, by decide +kernel, rfl, by decide +kernel, by decide +kernel⟩
abbrev s_are_fields : Stmt := topS 13
abbrev N_are_fields : List Str := ["value", "most", "names", "field"]
theorem sc_are_fields : FnScope N_are_fields ["value", "most"] (defScope s_are_fields) := ⟨rfl, rfl, rfl, by decide +kernel, rfl, by decide +kernel, by decide +kernel⟩
abbrev s_are_items : Stmt := topS 14
abbrev N_are_items : List Str := ["value"]
theorem sc_are_items : FnScope N_are_items ["value"] (defScope s_are_items) := ⟨rfl, rfl, rfl, by decide +kernel, rfl, by decide +kernel, by decide +kernel⟩
section
variable {P : Program} {w : World} {K : PySem.W.Frag} {mg : Str → Option Value} {base : Heap}
theorem ok_is_integer (S : Stands K mg "is_integer" s_is_integer ["value"]) (Z : Blt mg) : DefOk P w K mg base CX0 1 "is_integer" ["value"] spIsInt := by
  have z_isinstance := Z.isinstance
  have z_int := Z.int
  have z_bool := Z.bool
  obtain ⟨f, fd, F, hm, hb⟩ := S
  refine ⟨f, fd, ?_, hm, F.kp, hb⟩
  have nd := sc_is_integer.nd
  refine F.ok sc_is_integer (fun vs H Q E h => ?_) (fun cdv A outer s0 H vs Q E hr h => ?_)
  · obtain ⟨i, rfl, _⟩ := h
    rfl
  obtain ⟨i, rfl, q⟩ := h
  refine ⟨_, (pss_one (ps_ret (pe_and (pe_callB call_isi (by rfl) z_isinstance (by decide +kernel) (pa_cons (pv 0) (pa_cons (pe_bltn (v := .ty "int") (by rfl) z_int (by decide +kernel) rfl) pa_nil))) (pe_one (pe_not (pe_callB call_isi (by rfl) z_isinstance (by decide +kernel) (pa_cons (pv 0) (pa_cons (pe_bltn (v := .ty "bool") (by rfl) z_bool (by decide +kernel) rfl) pa_nil)))))))), ?_⟩
  walk_at "rd"
  refine ⟨_, .ty "int", _, _, true, rfl, .ty "int", .base (.int i), kit_ty (by decide +kernel), _, rfl, ?_⟩
  refine ifT rfl ?_
  walk_at "rd"
  refine ⟨_, .ty "bool", _, _, false, rfl, .ty "bool", .base (.int i), kit_ty (by decide +kernel), _, rfl, ?_⟩
  exact q H (Same.refl _)
theorem ok_is_integer_within (S : Stands K mg "is_integer_within" s_is_integer_within ["value", "least", "greatest"]) (Z : Blt mg) (H_is_integer : DefOk P w K mg base CX0 1 "is_integer" ["value"] spIsInt) : DefOk P w K mg base CX0 2 "is_integer_within" ["value", "least", "greatest"] spWithin := by
  obtain ⟨f, fd, F, hm, hb⟩ := S
  obtain ⟨f_is_integer, fd_is_integer, G_is_integer, m_is_integer, k_is_integer, b_is_integer⟩ := H_is_integer
  refine ⟨f, fd, ?_, hm, F.kp, hb⟩
  have nd := sc_is_integer_within.nd
  refine F.ok sc_is_integer_within (fun vs H Q E h => ?_) (fun cdv A outer s0 H vs Q E hr h => ?_)
  · obtain ⟨i, lo, hi, rfl, _⟩ := h
    rfl
  obtain ⟨i, lo, hi, rfl, h1, h2, q⟩ := h
  refine ⟨_, (pss_one (ps_ret (pe_and (pe_call G_is_integer (hr.mono (by decide)) rfl m_is_integer k_is_integer b_is_integer .nil pass0 (pa_cons (pv 0) pa_nil)) (pe_one (pe_chain op_le op_le (pv 1) (pv 0) (pv 2)))))), ?_⟩
  walk_at "rd"
  intro H1 S1
  refine ⟨_, rfl, ifT rfl ?_⟩
  walk_at "rd"
  rw [decide_eq_true h1]
  refine ifT rfl ?_
  walk_at "rd"
  refine (show Q (.bl (decide (i ≤ hi))) H1 from ?_)
  rw [decide_eq_true h2]
  exact q H1 S1
theorem ok_are_names (S : Stands K mg "are_names" s_are_names ["values"]) (Z : Blt mg) (C : CstT mg) : DefOk P w K mg base CX0 1 "are_names" ["values"] (spAreNames K) := by
  have z_isinstance := Z.isinstance
  have z_len := Z.len
  have z_str := Z.str
  obtain ⟨t8, c_MOST_LETTERS⟩ := C.letters
  have c_MOST_LETTERS_r := @rel_int 8 t8
  obtain ⟨f, fd, F, hm, hb⟩ := S
  refine ⟨f, fd, ?_, hm, F.kp, hb⟩
  have nd := sc_are_names.nd
  refine F.ok sc_are_names (fun vs H Q E h => ?_) (fun cdv A outer s0 H vs Q E hr h => ?_)
  · obtain ⟨l, ls, rfl, _⟩ := h
    rfl
  obtain ⟨l, ls, rfl, hl, h12, hn, q⟩ := h
  refine ⟨_, (pss_cons (ps_for PassesOwn.never rfl (pi_list (pv 0)) (pg_name (i := 1) nd rfl (Or.inl rfl)) (pss_one (ps_if (PW.pt (pw_or (pt_not (pt_val (pe_callB call_isi (by rfl) z_isinstance (by decide +kernel) (pa_cons (pv 1) (pa_cons (pe_bltn (v := .ty "str") (by rfl) z_str (by decide +kernel) rfl) pa_nil))))) (pw_or1 (pt_not (pt_chain op_le op_le pe_int (pe_callB call_len_str (by rfl) z_len (by decide +kernel) (pa_cons (pv 1) pa_nil)) (pe_glob rfl c_MOST_LETTERS c_MOST_LETTERS_r)))))) (pss_one (ps_ret pe_bl)) pss_nil)))
      (pss_cons (ps_set (i := 2) nd rfl (Or.inl rfl) (pe_bm PySem.F.plainAttrs_str PySem.F.slot_str_join PySem.F.type_str_join mt_join pe_str (pa_cons (pv 0) pa_nil)))
      (pss_one (ps_ret (pe_or (pe_cmpR op_eq (pv 2) pe_str (nomark _)) (pe_one (pe_and (pe_bm0 PySem.F.plainAttrs_str PySem.F.slot_str_isascii PySem.F.type_str_isascii mt_isascii (pv 2)) (pe_and (pe_bm0 PySem.F.plainAttrs_str PySem.F.slot_str_isalpha PySem.F.type_str_isalpha mt_isalpha (pv 2)) (pe_one (pe_bm0 PySem.F.plainAttrs_str PySem.F.slot_str_islower PySem.F.type_str_islower mt_islower (pv 2))))))))))), ?_⟩
  walk_at "rd"
  refine ⟨⟨_, hl⟩, ?_⟩
  refine for_list (K := K) (a := l) (xs := ls.map V.str) (fun i σ X => ∃ s1 : Option V, σ = [some (.ref l), s1, none] ∧ X = H) ⟨none, rfl, rfl⟩ (fun i σ X hi ⟨_, _, g⟩ => by rw [g]; exact hl) ?_ ?_
  · rintro i x σ X hx ⟨s1, rfl, rfl⟩
    obtain ⟨n, hb1, hb2, rfl⟩ := get_map hx
    have hnn := hn n (List.mem_of_getElem? hb2)
    have hlen := hnn.1
    have hlen8 := hnn.2.1
    refine ⟨_, rfl, ?_⟩
    walk_at "rd"
    refine ⟨_, .ty "str", _, _, true, rfl, .ty "str", .base (.str n), kit_ty (by decide +kernel), _, rfl, ?_⟩
    refine ifF rfl ?_
    walk_at "rd"
    refine ⟨sz (by omega), ?_⟩
    walk_at "rd"
    rw [decide_eq_true (show (1 : Int) ≤ ((n.length : Nat) : Int) by omega)]
    refine ifT rfl ?_
    walk_at "rd"
    refine ifF (by rw [decide_eq_true (show ((n.length : Nat) : Int) ≤ 8 by omega)]; rfl) ?_
    exact ⟨_, rfl, rfl⟩
  · rintro σ X ⟨s1, rfl, rfl⟩
    walk_at "rd"
    have hsum : (ls.map (·.length)).sum ≤ 60 * 8 := by
      have z : ∀ ks : List Str, (∀ n ∈ ks, isName n) → (ks.map (·.length)).sum ≤ ks.length * 8 := fun ks => by
        induction ks with
        | nil => intro _; simp
        | cons x r ih =>
          intro h
          have h1 := (h x List.mem_cons_self).2.1
          have h2 := ih fun y m => h y (List.mem_cons_of_mem _ m)
          simp only [List.map_cons, List.sum_cons, List.length_cons, Nat.succ_mul]
          omega
      have z1 := z ls hn
      have z2 := Nat.mul_le_mul_right 8 h12
      omega
    refine ⟨_, l, ls, rfl, rfl, .inl hl, by show (ls.map (·.length)).sum + ls.length * 0 ≤ 16777216; omega, ?_⟩
    have hlow := low_join ls fun n m => (hn n m).2.2
    have hpos : ls ≠ [] → 1 ≤ (Txt.join "" ls).length := fun h => join_pos h fun n m => (hn n m).1
    have hnil : ls = [] → Txt.join "" ls = "" := fun h => by rw [h, join_eq]; rfl
    change gName 2 (V.str (Txt.join "" ls)) _ _ _
    generalize Txt.join "" ls = letters at *
    walk_at "rd"
    by_cases e : ls = []
    · rw [hnil e]
      refine ifT (decide_eq_true rfl) ?_
      exact q _ (Same.refl _)
    · have h1 := hpos e
      refine ifF (decide_eq_false fun z => by rw [V.str.inj z] at h1; exact absurd h1 (by decide)) ?_
      walk_at "rd"
      rw [low_ascii hlow]
      refine ifT rfl ?_
      walk_at "rd"
      rw [low_alpha hlow h1]
      refine ifT rfl ?_
      walk_at "rd"
      rw [low_lower hlow h1]
      exact q _ (Same.refl _)
theorem ok_are_ascending (S : Stands K mg "are_ascending" s_are_ascending ["names"]) (Z : Blt mg) : DefOk P w K mg base CX0 1 "are_ascending" ["names"] (spAsc K) := by
  have z_sorted := Z.sorted
  have z_set := Z.set
  have z_len := Z.len
  obtain ⟨f, fd, F, hm, hb⟩ := S
  refine ⟨f, fd, ?_, hm, F.kp, hb⟩
  have nd := sc_are_ascending.nd
  refine F.ok sc_are_ascending (fun vs H Q E h => ?_) (fun cdv A outer s0 H vs Q E hr h => ?_)
  · obtain ⟨l, ls, rfl, _⟩ := h
    rfl
  obtain ⟨l, ls, rfl, hl, h12, hn, hp, q⟩ := h
  refine ⟨_, (pss_one (ps_ret (pe_and (pe_cmpR (op_eqD hr.units) (pe_callB cr_sortedS (by rfl) z_sorted (by decide +kernel) (pa_cons (pv 0) pa_nil)) (pv 0) (nomark _)) (pe_one (pe_cmpR op_eq (pe_callB cr_lenTx (by rfl) z_len (by decide +kernel) (pa_cons (pe_callTy (cr_setTx rfl) (by rfl) z_set (by decide +kernel) (pa_cons (pv 0) pa_nil)) pa_nil)) (pe_callB call_len_seq (by rfl) z_len (by decide +kernel) (pa_cons (pv 0) pa_nil)) (nomark _)))))), ?_⟩
  walk_at "rd"
  refine ⟨l, ls, rfl, hl, by omega, fun ys p hy hs hp1 => ?_⟩
  rw [asc_sorted hy hs hp]
  walk_at "rd"
  refine ⟨.list (ls.map .str), .list (ls.map .str), .lst (SqL.of upd_same) (dpStrs ls), .lst ((same_new hp1 _).seq hl) (dpStrs ls), strs_shaped ls hn, strs_shaped ls hn, ?_⟩
  rw [SeqAt.eqv_refl _ (SeqAt.canLay_of_shaped (strs_shaped ls hn))]
  refine ⟨_, rfl, ifT rfl ?_⟩
  walk_at "rd"
  refine ⟨l, ls, rfl, (same_new hp1 _).seq hl, by omega, fun p2 hp2 => ?_⟩
  walk_at "rd"
  refine ⟨p2, ls, _, rfl, upd_same, asc_nodup hp, by omega, ?_⟩
  walk_at "rd"
  have S2 := (same_new hp1 (.lst (ls.map V.str))).trans (same_new hp2 (SetX P w p2 ls ls.length))
  refine ⟨l, _, rfl, .inl (S2.seq hl), ?_⟩
  walk_at "rd"
  rw [List.length_map, decide_eq_true rfl]
  exact q _ S2
theorem ok_are_fields (S : Stands K mg "are_fields" s_are_fields ["value", "most"]) (Z : Blt mg) (H_are_names : DefOk P w K mg base CX0 1 "are_names" ["values"] (spAreNames K)) (H_are_ascending : DefOk P w K mg base CX0 1 "are_ascending" ["names"] (spAsc K)) : DefOk P w K mg base CX0 3 "are_fields" ["value", "most"] (spAreFields K) := by
  have z_isinstance := Z.isinstance
  have z_list := Z.list
  have z_tuple := Z.tuple
  have z_len := Z.len
  obtain ⟨f, fd, F, hm, hb⟩ := S
  obtain ⟨f_are_names, fd_are_names, G_are_names, m_are_names, k_are_names, b_are_names⟩ := H_are_names
  obtain ⟨f_are_ascending, fd_are_ascending, G_are_ascending, m_are_ascending, k_are_ascending, b_are_ascending⟩ := H_are_ascending
  refine ⟨f, fd, ?_, hm, F.kp, hb⟩
  have nd := sc_are_fields.nd
  refine F.ok sc_are_fields (fun vs H Q E h => ?_) (fun cdv A outer s0 H vs Q E hr h => ?_)
  · obtain ⟨l, bs, ls, us, rfl, _⟩ := h
    rfl
  obtain ⟨l, bs, ls, us, rfl, hl, h12, hls, hus, hf, hn, hp, q⟩ := h
  refine ⟨_, (pss_cons (ps_if (PW.pt (pw_or (pt_not (pt_val (pe_callB call_isi (by rfl) z_isinstance (by decide +kernel) (pa_cons (pv 0) (pa_cons (pe_bltn (v := .ty "list") (by rfl) z_list (by decide +kernel) rfl) pa_nil))))) (pw_or1 (pt_cmpR op_gt (pe_callB call_len_seq (by rfl) z_len (by decide +kernel) (pa_cons (pv 0) pa_nil)) (pv 1) (nomark _))))) (pss_one (ps_ret pe_bl)) pss_nil)
      (pss_cons (ps_set (i := 2) nd rfl (Or.inl rfl) (pe_lst pa_nil))
      (pss_cons (ps_for PassesOwn.never rfl (pi_list (pv 0)) (pg_name (i := 3) nd rfl (Or.inl rfl)) (pss_cons (ps_if (PW.pt (pw_or (pt_not (pt_val (pe_callB call_isi (by rfl) z_isinstance (by decide +kernel) (pa_cons (pv 3) (pa_cons (pe_bltn (v := .ty "tuple") (by rfl) z_tuple (by decide +kernel) rfl) pa_nil))))) (pw_or1 (pt_cmpR op_ne (pe_callB call_len_seq (by rfl) z_len (by decide +kernel) (pa_cons (pv 3) pa_nil)) pe_int (nomark _))))) (pss_one (ps_ret pe_bl)) pss_nil)
      (pss_one (ps_expr (pe_bm PySem.F.plainAttrs_list PySem.F.slot_list_append PySem.F.type_list_append mt_append (pv 2) (pa_cons (pe_ix ix_tup (pv 3) pe_int (fun _ _ => rfl)) pa_nil))))))
      (pss_one (ps_ret (pe_and (pe_call G_are_names (hr.mono (by decide)) rfl m_are_names k_are_names b_are_names .nil pass0 (pa_cons (pv 2) pa_nil)) (pe_one (pe_call G_are_ascending (hr.mono (by decide)) rfl m_are_ascending k_are_ascending b_are_ascending .nil pass0 (pa_cons (pv 2) pa_nil))))))))), ?_⟩
  walk_at "rd"
  refine ⟨_, .ty "list", _, _, true, rfl, .ty "list", tyL hl, kit_ty (by decide +kernel), _, rfl, ?_⟩
  refine ifF rfl ?_
  walk_at "rd"
  refine ⟨l, _, rfl, .inl hl, ?_⟩
  walk_at "rd"
  refine ifF (decide_eq_false (by rw [List.length_map]; omega)) ?_
  walk_at "rd"
  intro D hD
  have S0 := same_new hD (.lst [])
  have g0 := @upd_same H D (.lst [])
  generalize upd H D (.lst []) = H0 at *
  walk_at "rd"
  refine ⟨⟨_, S0.seq hl⟩, ?_⟩
  refine for_list (K := K) (a := l) (xs := bs.map V.ref) (fun i σ X => ∃ s3 : Option V, σ = [some (.ref l), some (.int 400), some (.ref D), s3] ∧ Same H X ∧ X D = some (.lst ((ls.take i).map V.str))) ⟨none, rfl, S0, g0⟩ (fun i σ X hi ⟨_, _, g, _⟩ => g.seq hl) ?_ ?_
  · rintro i x σ X hx ⟨s3, rfl, g, gD⟩
    obtain ⟨b, hb1, hb2, rfl⟩ := get_map hx
    have hi := (List.getElem?_eq_some_iff.mp hb2).1
    have e1 : ls[i]? = some (ls[i]'(by omega)) := List.getElem?_eq_getElem (by omega)
    have e2 : us[i]? = some (us[i]'(by omega)) := List.getElem?_eq_getElem (by omega)
    have ht := g.tupS (hf i b _ _ hb2 e1 e2)
    refine ⟨_, rfl, ?_⟩
    walk_at "rd"
    refine ⟨_, .ty "tuple", _, _, true, rfl, .ty "tuple", tyT ht, kit_ty (by decide +kernel), _, rfl, ?_⟩
    refine ifF rfl ?_
    walk_at "rd"
    refine ⟨b, _, rfl, .inr ht, ?_⟩
    walk_at "rd"
    walk_at "rd"
    refine ⟨.inl ⟨rfl, _, SqL.of gD⟩, ?_⟩
    walk_at "rd"
    refine ⟨D, _, _, rfl, rfl, gD, small1000 (by rw [List.length_map, List.length_take]; omega), ?_⟩
    refine ⟨_, rfl, fun c o e => ?_, ?_⟩
    · have n1 : c ≠ D := fun z => by rw [z, hD] at e; cases e
      rw [upd_ne n1]
      exact g c o e
    · rw [upd_same, List.take_add_one, e1, List.map_append]
      rfl
  · rintro σ X ⟨s3, rfl, g, gD⟩
    rw [List.length_map, List.take_of_length_le (by omega)] at gD
    walk_at "rd"
    refine ⟨D, ls, rfl, SqL.of gD, by omega, hn, fun H2 S2 => ?_⟩
    refine ⟨_, rfl, ifT rfl ?_⟩
    walk_at "rd"
    exact ⟨D, ls, rfl, SqL.of (S2 _ _ gD), by omega, hn, hp, fun H3 S3 => q H3 ((g.trans S2).trans S3)⟩
theorem ok_are_items (S : Stands K mg "are_items" s_are_items ["value"]) (Z : Blt mg) (C : CstT mg) : DefOk P w K mg base CX0 1 "are_items" ["value"] (spAreItems K) := by
  have z_isinstance := Z.isinstance
  have z_list := Z.list
  have z_len := Z.len
  obtain ⟨t2, c_LEAST_ITEMS⟩ := C.least
  have c_LEAST_ITEMS_r := @rel_int 2 t2
  obtain ⟨t6, c_MOST_ITEMS⟩ := C.items
  have c_MOST_ITEMS_r := @rel_int 6 t6
  obtain ⟨f, fd, F, hm, hb⟩ := S
  refine ⟨f, fd, ?_, hm, F.kp, hb⟩
  have nd := sc_are_items.nd
  refine F.ok sc_are_items (fun vs H Q E h => ?_) (fun cdv A outer s0 H vs Q E hr h => ?_)
  · obtain ⟨l, xs, rfl, _⟩ := h
    rfl
  obtain ⟨l, xs, rfl, hl, h2, h6, q⟩ := h
  refine ⟨_, (pss_one (ps_ret (pe_and (pe_callB call_isi (by rfl) z_isinstance (by decide +kernel) (pa_cons (pv 0) (pa_cons (pe_bltn (v := .ty "list") (by rfl) z_list (by decide +kernel) rfl) pa_nil))) (pe_one (pe_chain op_le op_le (pe_glob rfl c_LEAST_ITEMS c_LEAST_ITEMS_r) (pe_callB call_len_seq (by rfl) z_len (by decide +kernel) (pa_cons (pv 0) pa_nil)) (pe_glob rfl c_MOST_ITEMS c_MOST_ITEMS_r)))))), ?_⟩
  walk_at "rd"
  refine ⟨_, .ty "list", _, _, true, rfl, .ty "list", tyL hl, kit_ty (by decide +kernel), _, rfl, ?_⟩
  refine ifT rfl ?_
  walk_at "rd"
  refine ⟨l, _, rfl, .inl hl, ?_⟩
  walk_at "rd"
  rw [decide_eq_true (show (2 : Int) ≤ ((xs.length : Nat) : Int) by omega)]
  refine ifT rfl ?_
  walk_at "rd"
  refine (show Q (.bl (decide (((xs.length : Nat) : Int) ≤ 6))) H from ?_)
  rw [decide_eq_true (show ((xs.length : Nat) : Int) ≤ 6 by omega)]
  exact q H (Same.refl _)
end
end Vt


set_option Elab.async false
set_option linter.all false
set_option maxRecDepth 100000
set_option maxHeartbeats 4000000

namespace Vt
open PySem PySem.Spec PyProof.Rows L2
/-! ### trees that are good ones -/
def Hy.word : Hy → Str
  | .var _ => "var" | .int => "int" | .bool => "bool" | .fn => "fun" | .tup => "tuple" | .rcd _ _ => "record"
abbrev Ty.hd : Ty → Hy | .node h _ => h
abbrev Ty.kids : Ty → List Ty | .node _ ks => ks
/-- what the marks of a head stand for: the names of a tail's records, none for a variable -/
def Fit (lab : Nat → Option (List Str)) : Hy → Prop
  | .var n => n ≤ 999 ∧ lab n = none
  | .rcd ls m => ls.length ≤ 60 ∧ (∀ n ∈ ls, isName n) ∧ ls.Pairwise strLt ∧ ∀ k, m = some k → k ≤ 999 ∧ lab k = some ls
  | _ => True
inductive Gd (lab : Nat → Option (List Str)) : Ty → Prop
  | mk {h : Hy} {ks : List Ty} : okHy h ks.length → Fit lab h → (∀ t ∈ ks, Gd lab t) → Gd lab (.node h ks)
theorem Gd.hd {lab : Nat → Option (List Str)} {h : Hy} {ks : List Ty} : Gd lab (.node h ks) → okHy h ks.length
  | .mk a _ _ => a
theorem Gd.fit {lab : Nat → Option (List Str)} {h : Hy} {ks : List Ty} : Gd lab (.node h ks) → Fit lab h
  | .mk _ a _ => a
theorem Gd.kid {lab : Nat → Option (List Str)} {h : Hy} {ks : List Ty} {t : Ty} (m : t ∈ ks) : Gd lab (.node h ks) → Gd lab t
  | .mk _ _ f => f t m
theorem Gd.wy {lab : Nat → Option (List Str)} {t : Ty} (g : Gd lab t) : Wy t := by
  induction g with
  | mk a _ _ ih => exact .mk a ih
/-- a tree that is none too great -/
structure Gt (lab : Nat → Option (List Str)) (t : Ty) : Prop where
  gd : Gd lab t
  sz : t.size ≤ 1000
  dp : t.deep ≤ 100
theorem ysizes_app (b : List Ty) : ∀ a : List Ty, Ty.sizes (a ++ b) = Ty.sizes a + Ty.sizes b
  | [] => by simp [Ty.sizes]
  | t :: r => by
    simp only [List.cons_append, Ty.sizes, ysizes_app b r]
    omega
theorem ydeeps_app (b : List Ty) : ∀ a : List Ty, Ty.deeps (a ++ b) = max (Ty.deeps a) (Ty.deeps b)
  | [] => by simp [Ty.deeps]
  | t :: r => by
    simp only [List.cons_append, Ty.deeps, ydeeps_app b r]
    omega
theorem ysizes_next : ∀ ts : List Ty, Ty.sizes ts = ts.length + Ty.sizes (ts.flatMap Ty.kids)
  | [] => rfl
  | .node h ks :: r => by
    rw [List.flatMap_cons, ysizes_app, Ty.sizes, ysizes_next r, Ty.size, List.length_cons]
    show 1 + Ty.sizes ks + _ = _ + (Ty.sizes ks + _)
    omega
theorem ydeeps_next : ∀ ts : List Ty, ts ≠ [] → Ty.deeps ts = 1 + Ty.deeps (ts.flatMap Ty.kids)
  | [], h => absurd rfl h
  | [.node h ks], _ => by
    simp [Ty.deeps, Ty.deep]
  | .node h ks :: u :: r, _ => by
    rw [List.flatMap_cons, ydeeps_app, Ty.deeps, ydeeps_next (u :: r) (by simp), Ty.deep]
    show max (1 + Ty.deeps ks) _ = 1 + max (Ty.deeps ks) _
    omega
theorem ylen_sizes : ∀ ts : List Ty, ts.length ≤ Ty.sizes ts := fun ts => by
  rw [ysizes_next]
  omega
theorem Tr.tuple {K : PySem.W.Frag} {H : Hp} {v : V} {t : Ty} (h : Tr K H v t) : ∃ a xs, v = .ref a ∧ SqT K H a (.str t.hd.word :: xs) := by
  cases h
  all_goals exact ⟨_, _, rfl, by assumption⟩
/-! ### the trees within a node, kind by kind -/
/-- a list or a tuple: of the tree itself, or new -/
def Nw (K : PySem.W.Frag) (G0 H H' : Hp) (r : Addr) (us : List V) : Prop := Sq K G0 r us ∨ (H r = none ∧ (H' r = some (.lst us) ∨ H' r = some (.tup us)))
theorem Nw.sq {K : PySem.W.Frag} {G0 H H' : Hp} {r : Addr} {us : List V} (h : Nw K G0 H H' r us) (s : Same G0 H') : Sq K H' r us := by
  rcases h with h | ⟨_, h | h⟩
  · exact h.same s
  · exact .inl (SqL.of h)
  · exact .inr (SqT.of h)
def spMark : Sp := fun vs H Q _ => ∃ i : Nat, vs = [.int (i : Nat)] ∧ i ≤ 999 ∧ ∀ H', Same H H' → Q (.bl true) H'
def spInY (K : PySem.W.Frag) (wd : Str) : Sp := fun vs H Q _ => ∃ (v : V) (t : Ty) (G0 : Hp) (lab : Nat → Option (List Str)), vs = [v] ∧ t.hd.word = wd ∧ Same G0 H ∧ Tr K G0 v t ∧ Gd lab t ∧
  ∀ (r : Addr) (H' : Hp) (us : List V), Same H H' → Nw K G0 H H' r us → Al (fun u k => Tr K G0 u k) us t.kids → Q (.ref r) H'
theorem al0 {α β : Type} {R : α → β → Prop} : Al R [] [] := Al.nil
theorem al1 {α β : Type} {R : α → β → Prop} {a : α} {b : β} (h : R a b) : Al R [a] [b] := Al.snoc (xs := []) (ys := []) Al.nil h
theorem al2 {α β : Type} {R : α → β → Prop} {a a2 : α} {b b2 : β} (h : R a b) (h2 : R a2 b2) : Al R [a, a2] [b, b2] := Al.snoc (xs := [a]) (ys := [b]) (al1 h) h2
abbrev s_is_mark : Stmt := topS 20
abbrev N_is_mark : List Str := ["value"]
theorem sc_is_mark : FnScope N_is_mark ["value"] (defScope s_is_mark) := ⟨rfl, rfl, rfl, by decide +kernel, rfl, by decide +kernel, by decide +kernel⟩
abbrev s_inner_of_var : Stmt := topS 21
abbrev N_inner_of_var : List Str := ["node"]
theorem sc_inner_of_var : FnScope N_inner_of_var ["node"] (defScope s_inner_of_var) := ⟨rfl, rfl, rfl, by decide +kernel, rfl, by decide +kernel, by decide +kernel⟩
abbrev s_inner_of_constant : Stmt := topS 22
abbrev N_inner_of_constant : List Str := ["node"]
theorem sc_inner_of_constant : FnScope N_inner_of_constant ["node"] (defScope s_inner_of_constant) := ⟨rfl, rfl, rfl, by decide +kernel, rfl, by decide +kernel, by decide +kernel⟩
abbrev s_inner_of_fun : Stmt := topS 23
abbrev N_inner_of_fun : List Str := ["node"]
theorem sc_inner_of_fun : FnScope N_inner_of_fun ["node"] (defScope s_inner_of_fun) := ⟨rfl, rfl, rfl, by decide +kernel, rfl, by decide +kernel, by decide +kernel⟩
abbrev s_inner_of_tuple : Stmt := topS 24
abbrev N_inner_of_tuple : List Str := ["node"]
theorem sc_inner_of_tuple : FnScope N_inner_of_tuple ["node"] (defScope s_inner_of_tuple) := ⟨rfl, rfl, rfl, by decide +kernel, rfl, by decide +kernel, by decide +kernel⟩
abbrev s_inner_of_record : Stmt := topS 25
abbrev N_inner_of_record : List Str := ["node", "_", "tree"]
theorem sc_inner_of_record : FnScope N_inner_of_record ["node"] (defScope s_inner_of_record) := ⟨rfl, rfl, rfl, by decide +kernel, rfl, by decide +kernel, by decide +kernel⟩
section
variable {P : Program} {w : World} {K : PySem.W.Frag} {mg : Str → Option Value} {base : Heap}
theorem ok_is_mark (S : Stands K mg "is_mark" s_is_mark ["value"]) (C : CstT mg) (H_is_integer_within : DefOk P w K mg base CX0 2 "is_integer_within" ["value", "least", "greatest"] spWithin) : DefOk P w K mg base CX0 3 "is_mark" ["value"] spMark := by
  obtain ⟨t9, c_GREATEST_MARK⟩ := C.great
  have c_GREATEST_MARK_r := @rel_int 999 t9
  obtain ⟨f, fd, F, hm, hb⟩ := S
  obtain ⟨f_is_integer_within, fd_is_integer_within, G_is_integer_within, m_is_integer_within, k_is_integer_within, b_is_integer_within⟩ := H_is_integer_within
  refine ⟨f, fd, ?_, hm, F.kp, hb⟩
  have nd := sc_is_mark.nd
  refine F.ok sc_is_mark (fun vs H Q E h => ?_) (fun cdv A outer s0 H vs Q E hr h => ?_)
  · obtain ⟨i, rfl, _⟩ := h
    rfl
  obtain ⟨i, rfl, hi, q⟩ := h
  refine ⟨_, (pss_one (ps_ret (pe_call G_is_integer_within (hr.mono (by decide)) rfl m_is_integer_within k_is_integer_within b_is_integer_within .nil pass0 (pa_cons (pv 0) (pa_cons pe_int (pa_cons (pe_glob rfl c_GREATEST_MARK c_GREATEST_MARK_r) pa_nil)))))), ?_⟩
  walk_at "rd"
  exact ⟨_, 0, 999, rfl, by omega, by omega, fun H1 S1 => q H1 S1⟩
theorem ok_in_var (S : Stands K mg "inner_of_var" s_inner_of_var ["node"]) (Z : Blt mg) (H_is_mark : DefOk P w K mg base CX0 3 "is_mark" ["value"] spMark) : DefOk P w K mg base CX0 4 "inner_of_var" ["node"] (spInY K "var") := by
  have z_len := Z.len
  obtain ⟨f, fd, F, hm, hb⟩ := S
  obtain ⟨f_is_mark, fd_is_mark, G_is_mark, m_is_mark, k_is_mark, b_is_mark⟩ := H_is_mark
  refine ⟨f, fd, ?_, hm, F.kp, hb⟩
  have nd := sc_inner_of_var.nd
  refine F.ok sc_inner_of_var (fun vs H Q E h => ?_) (fun cdv A outer s0 H vs Q E hr h => ?_)
  · obtain ⟨v, t, G0, lab, rfl, _⟩ := h
    rfl
  obtain ⟨v, t, G0, lab, rfl, hw, hG, hT, hW, q⟩ := h
  refine ⟨_, (pss_one (ps_ret (pe_ifExp (PW.pt (pw_and (pt_cmpR op_eq (pe_callB call_len_seq (by rfl) z_len (by decide +kernel) (pa_cons (pv 0) pa_nil)) pe_int (nomark _)) (pw_and1 (pt_val (pe_call G_is_mark (hr.mono (by decide)) rfl m_is_mark k_is_mark b_is_mark .nil pass0 (pa_cons (pe_ix ix_tup (pv 0) pe_int (fun _ _ => rfl)) pa_nil)))))) (pe_tup pa_nil) pe_non))), ?_⟩
  cases hT with
  | @var a n h1 =>
    walk_at "rd"
    refine ⟨a, _, rfl, .inr (hG.tupS h1), ?_⟩
    walk_at "rd"
    refine ⟨a, _, _, _, rfl, rfl, hG.tupS h1, rfl, ?_⟩
    walk_at "rd"
    refine ⟨hW.fit.1, fun H1 S1 => ⟨_, rfl, ifT rfl ?_⟩⟩
    have G1 := hG.trans S1
    walk_at "rd"
    intro p hp
    exact q p _ [] (S1.trans (same_new hp _)) (.inr ⟨S1.fr hp, .inr upd_same⟩) al0
  | _ => exact absurd hw (of_decide_eq_false (by kernel_rfl))
theorem ok_in_constant (wd : Str) (hwd : wd = "int" ∨ wd = "bool") (S : Stands K mg "inner_of_constant" s_inner_of_constant ["node"]) (Z : Blt mg) : DefOk P w K mg base CX0 4 "inner_of_constant" ["node"] (spInY K wd) := by
  have z_len := Z.len
  obtain ⟨f, fd, F, hm, hb⟩ := S
  refine ⟨f, fd, ?_, hm, F.kp, hb⟩
  have nd := sc_inner_of_constant.nd
  refine F.ok sc_inner_of_constant (fun vs H Q E h => ?_) (fun cdv A outer s0 H vs Q E hr h => ?_)
  · obtain ⟨v, t, G0, lab, rfl, _⟩ := h
    rfl
  obtain ⟨v, t, G0, lab, rfl, hw, hG, hT, hW, q⟩ := h
  refine ⟨_, (pss_one (ps_ret (pe_ifExp (pt_cmpR op_eq (pe_callB call_len_seq (by rfl) z_len (by decide +kernel) (pa_cons (pv 0) pa_nil)) pe_int (nomark _)) (pe_tup pa_nil) pe_non))), ?_⟩
  have key : ∃ a : Addr, v = .ref a ∧ ∃ x, SqT K H a [.str x] ∧ t.kids = [] := by
    cases hT with
    | @int a h1 => exact ⟨a, rfl, _, hG.tupS h1, rfl⟩
    | @bool a h1 => exact ⟨a, rfl, _, hG.tupS h1, rfl⟩
    | _ =>
      exfalso
      revert hw
      rcases hwd with rfl | rfl <;> exact of_decide_eq_false (by kernel_rfl)
  obtain ⟨a, rfl, x, ha, ek⟩ := key
  walk_at "rd"
  refine ⟨a, _, rfl, .inr ha, ?_⟩
  walk_at "rd"
  intro p hp
  exact q p _ [] (same_new hp _) (.inr ⟨hp, .inr upd_same⟩) (by rw [ek]; exact al0)
theorem ok_in_fun (S : Stands K mg "inner_of_fun" s_inner_of_fun ["node"]) (Z : Blt mg) : DefOk P w K mg base CX0 4 "inner_of_fun" ["node"] (spInY K "fun") := by
  have z_len := Z.len
  obtain ⟨f, fd, F, hm, hb⟩ := S
  refine ⟨f, fd, ?_, hm, F.kp, hb⟩
  have nd := sc_inner_of_fun.nd
  refine F.ok sc_inner_of_fun (fun vs H Q E h => ?_) (fun cdv A outer s0 H vs Q E hr h => ?_)
  · obtain ⟨v, t, G0, lab, rfl, _⟩ := h
    rfl
  obtain ⟨v, t, G0, lab, rfl, hw, hG, hT, hW, q⟩ := h
  refine ⟨_, (pss_one (ps_ret (pe_ifExp (pt_cmpR op_eq (pe_callB call_len_seq (by rfl) z_len (by decide +kernel) (pa_cons (pv 0) pa_nil)) pe_int (nomark _)) (pe_slice sl_tup (pv 0) (po_some pe_int) po_none) pe_non))), ?_⟩
  cases hT with
  | @fn a u v s t h1 h2 h3 =>
    walk_at "rd"
    refine ⟨a, _, rfl, .inr (hG.tupS h1), ?_⟩
    walk_at "rd"
    refine ⟨a, _, rfl, hG.tupS h1, (fun z' => absurd (show (1 : Nat) = 0 from z'.1) (by decide)), fun p hp => ?_⟩
    exact q p _ [u, v] ((Same.refl H).trans (same_new hp _)) (.inr ⟨(Same.refl H).fr hp, .inr upd_same⟩) (al2 h2 h3)
  | _ => exact absurd hw (of_decide_eq_false (by kernel_rfl))
theorem ok_in_tuple (S : Stands K mg "inner_of_tuple" s_inner_of_tuple ["node"]) (Z : Blt mg) (H_are_items : DefOk P w K mg base CX0 1 "are_items" ["value"] (spAreItems K)) : DefOk P w K mg base CX0 4 "inner_of_tuple" ["node"] (spInY K "tuple") := by
  have z_len := Z.len
  obtain ⟨f, fd, F, hm, hb⟩ := S
  obtain ⟨f_are_items, fd_are_items, G_are_items, m_are_items, k_are_items, b_are_items⟩ := H_are_items
  refine ⟨f, fd, ?_, hm, F.kp, hb⟩
  have nd := sc_inner_of_tuple.nd
  refine F.ok sc_inner_of_tuple (fun vs H Q E h => ?_) (fun cdv A outer s0 H vs Q E hr h => ?_)
  · obtain ⟨v, t, G0, lab, rfl, _⟩ := h
    rfl
  obtain ⟨v, t, G0, lab, rfl, hw, hG, hT, hW, q⟩ := h
  refine ⟨_, (pss_one (ps_ret (pe_ifExp (PW.pt (pw_and (pt_cmpR op_eq (pe_callB call_len_seq (by rfl) z_len (by decide +kernel) (pa_cons (pv 0) pa_nil)) pe_int (nomark _)) (pw_and1 (pt_val (pe_call G_are_items (hr.mono (by decide)) rfl m_are_items k_are_items b_are_items .nil pass0 (pa_cons (pe_ix ix_tup (pv 0) pe_int (fun _ _ => rfl)) pa_nil)))))) (pe_ix ix_tup (pv 0) pe_int (fun _ _ => rfl)) pe_non))), ?_⟩
  cases hT with
  | @tup a l xs ts h1 h2 h3 h4 =>
    walk_at "rd"
    refine ⟨a, _, rfl, .inr (hG.tupS h1), ?_⟩
    walk_at "rd"
    refine ⟨a, _, _, _, rfl, rfl, hG.tupS h1, rfl, ?_⟩
    walk_at "rd"
    have hd := hW.hd
    simp only [okHy] at hd
    refine ⟨l, xs, rfl, hG.seq h2, by omega, by omega, fun H1 S1 => ⟨_, rfl, ifT rfl ?_⟩⟩
    walk_at "rd"
    refine ⟨a, _, _, _, rfl, rfl, (hG.trans S1).tupS h1, rfl, ?_⟩
    exact q l H1 xs S1 (.inl (.inl h2)) ⟨h3, h4⟩
  | _ => exact absurd hw (of_decide_eq_false (by kernel_rfl))
theorem ok_in_record (S : Stands K mg "inner_of_record" s_inner_of_record ["node"]) (Z : Blt mg) (C : CstT mg) (H_are_fields : DefOk P w K mg base CX0 3 "are_fields" ["value", "most"] (spAreFields K)) (H_is_mark : DefOk P w K mg base CX0 3 "is_mark" ["value"] spMark) : DefOk P w K mg base CX0 4 "inner_of_record" ["node"] (spInY K "record") := by
  have z_len := Z.len
  obtain ⟨t_fields, c_MOST_FIELDS⟩ := C.fields
  have c_MOST_FIELDS_r := @rel_int 400 t_fields
  obtain ⟨f, fd, F, hm, hb⟩ := S
  obtain ⟨f_are_fields, fd_are_fields, G_are_fields, m_are_fields, k_are_fields, b_are_fields⟩ := H_are_fields
  obtain ⟨f_is_mark, fd_is_mark, G_is_mark, m_is_mark, k_is_mark, b_is_mark⟩ := H_is_mark
  refine ⟨f, fd, ?_, hm, F.kp, hb⟩
  have nd := sc_inner_of_record.nd
  refine F.ok sc_inner_of_record (fun vs H Q E h => ?_) (fun cdv A outer s0 H vs Q E hr h => ?_)
  · obtain ⟨v, t, G0, lab, rfl, _⟩ := h
    rfl
  obtain ⟨v, t, G0, lab, rfl, hw, hG, hT, hW, q⟩ := h
  refine ⟨_, (pss_cons (ps_if (PW.pt (pw_or (pt_cmpR op_ne (pe_callB call_len_seq (by rfl) z_len (by decide +kernel) (pa_cons (pv 0) pa_nil)) pe_int (nomark _)) (pw_or1 (pt_not (pt_val (pe_call G_are_fields (hr.mono (by decide)) rfl m_are_fields k_are_fields b_are_fields .nil pass0 (pa_cons (pe_ix ix_tup (pv 0) pe_int (fun _ _ => rfl)) (pa_cons (pe_glob rfl c_MOST_FIELDS c_MOST_FIELDS_r) pa_nil)))))))) (pss_one (ps_ret pe_non)) pss_nil)
      (pss_cons (ps_if (PW.pt (pw_and (pt_cmpR op_notN (pe_ix ix_tup (pv 0) pe_int (fun _ _ => rfl)) pe_non (nomark _)) (pw_and1 (pt_not (pt_val (pe_call G_is_mark (hr.mono (by decide)) rfl m_is_mark k_is_mark b_is_mark .nil pass0 (pa_cons (pe_ix ix_tup (pv 0) pe_int (fun _ _ => rfl)) pa_nil))))))) (pss_one (ps_ret pe_non)) pss_nil)
      (pss_one (ps_ret (pe_lc (own := [("_", 1), ("tree", 2)]) (g := gTup K 2 (gCons (gName 1) (gCons (gName 2) gNil))) (tt := tYes) rfl nd (pi_list (pe_ix ix_tup (pv 0) pe_int (fun _ _ => rfl))) (blkOk_by (N := N_inner_of_record) (sc := defScope s_inner_of_record) (by decide +kernel)) (fun _ _ _ _ _ => (pg_tup rfl (pgs_cons (pg_name (i := 1) nd rfl (Or.inl rfl)) (pgs_cons (pg_name (i := 2) nd rfl (Or.inl rfl)) pgs_nil)))) (fun _ _ _ _ _ => pts_nil) (fun _ _ _ _ _ => (pv 2))))))), ?_⟩
  cases hT with
  | @rcd a l bs us ls ts m h1 h2 h3 h4 h5 h6 h7 =>
    walk_at "rd"
    refine ⟨a, _, rfl, .inr (hG.tupS h1), ?_⟩
    walk_at "rd"
    refine ⟨a, _, _, _, rfl, rfl, hG.tupS h1, rfl, ?_⟩
    walk_at "rd"
    have hd := hW.hd
    simp only [okHy] at hd
    obtain ⟨ft1, ft2, ft3, ft4⟩ := hW.fit
    refine ⟨l, bs, ls, us, rfl, hG.seq h2, by omega, by omega, by omega, fun i b n u e1 e2 e3 => hG.tupS (h6 i b n u e1 e2 e3), ft2, ft3, fun H1 S1 => ⟨_, rfl, ifF rfl ?_⟩⟩
    have G1 := hG.trans S1
    walk_at "rd"
    refine ⟨a, _, _, _, rfl, rfl, G1.tupS h1, rfl, ?_⟩
    cases m with
    | none =>
      refine ⟨rfl, _, rfl, ifF rfl ?_⟩
      have S12 := S1
      have G2 := G1
      generalize H1 = H2 at *
      refine ⟨_, rfl, a, _, _, _, rfl, rfl, G2.tupS h1, rfl, ?_⟩
      refine ⟨l, rfl, ⟨_, G2.seq h2⟩, fun D hD => ?_⟩
      refine lc_list (K := K) (a := l) (xs := bs.map V.ref) (fun i X => ∃ (G : Hp), Same G X ∧ G D = none ∧ Same H2 G ∧ X D = some (.lst (us.take i)))
        ⟨H2, same_new hD _, hD, Same.refl _, upd_same⟩ (fun i X hi ⟨G, g1, _, g3, _⟩ => (g3.trans g1).seq (G2.seq h2)) ?_ ?_
      · rintro i x X hx ⟨G, g1, g2, g3, g4⟩
        obtain ⟨b, hb1, hb2, rfl⟩ := get_map hx
        have hi := (List.getElem?_eq_some_iff.mp hb2).1
        have hu : us[i]? = some (us[i]'(by omega)) := List.getElem?_eq_getElem (by omega)
        have hn : ls[i]? = some (ls[i]'(by omega)) := List.getElem?_eq_getElem (by omega)
        have ht := (G2.trans (g3.trans g1)).tupS (h6 i b _ _ hb2 hn hu)
        refine ⟨b, _, rfl, ht, rfl, ?_⟩
        refine ⟨_, _, rfl, ⟨_, _, rfl, rfl, ?_⟩⟩
        refine ⟨rfl, ?_⟩
        walk_at "rd"
        refine ⟨_, g4, small1000 (by rw [List.length_take]; omega), G, g1.wr g2, g2, g3, ?_⟩
        rw [upd_same, List.take_add_one, hu]
        rfl
      · rintro X ⟨G, g1, g2, g3, g4⟩
        rw [List.length_map, List.take_of_length_le (by omega)] at g4
        exact q D X us (S12.trans (g3.trans g1)) (.inr ⟨S12.fr hD, .inl g4⟩) ⟨h5, h7⟩
    | some k =>
      refine ⟨rfl, _, rfl, ifT rfl ?_⟩
      refine ⟨_, rfl, a, _, _, _, rfl, rfl, G1.tupS h1, rfl, k, rfl, (ft4 k rfl).1, fun H2 S2 => ⟨_, rfl, ifF rfl ?_⟩⟩
      have S12 := S1.trans S2
      have G2 := G1.trans S2
      refine ⟨_, rfl, a, _, _, _, rfl, rfl, G2.tupS h1, rfl, ?_⟩
      refine ⟨l, rfl, ⟨_, G2.seq h2⟩, fun D hD => ?_⟩
      refine lc_list (K := K) (a := l) (xs := bs.map V.ref) (fun i X => ∃ (G : Hp), Same G X ∧ G D = none ∧ Same H2 G ∧ X D = some (.lst (us.take i)))
        ⟨H2, same_new hD _, hD, Same.refl _, upd_same⟩ (fun i X hi ⟨G, g1, _, g3, _⟩ => (g3.trans g1).seq (G2.seq h2)) ?_ ?_
      · rintro i x X hx ⟨G, g1, g2, g3, g4⟩
        obtain ⟨b, hb1, hb2, rfl⟩ := get_map hx
        have hi := (List.getElem?_eq_some_iff.mp hb2).1
        have hu : us[i]? = some (us[i]'(by omega)) := List.getElem?_eq_getElem (by omega)
        have hn : ls[i]? = some (ls[i]'(by omega)) := List.getElem?_eq_getElem (by omega)
        have ht := (G2.trans (g3.trans g1)).tupS (h6 i b _ _ hb2 hn hu)
        refine ⟨b, _, rfl, ht, rfl, ?_⟩
        refine ⟨_, _, rfl, ⟨_, _, rfl, rfl, ?_⟩⟩
        refine ⟨rfl, ?_⟩
        walk_at "rd"
        refine ⟨_, g4, small1000 (by rw [List.length_take]; omega), G, g1.wr g2, g2, g3, ?_⟩
        rw [upd_same, List.take_add_one, hu]
        rfl
      · rintro X ⟨G, g1, g2, g3, g4⟩
        rw [List.length_map, List.take_of_length_le (by omega)] at g4
        exact q D X us (S12.trans (g3.trans g1)) (.inr ⟨S12.fr hD, .inl g4⟩) ⟨h5, h7⟩
  | _ => exact absurd hw (of_decide_eq_false (by kernel_rfl))
end
end Vt


set_option Elab.async false
set_option linter.all false
set_option maxRecDepth 100000
set_option maxHeartbeats 4000000

namespace Vt
open PySem PySem.Spec PyProof.Rows L2
/-- the table of the kinds: where each word's own def stands -/
structure KindsY (P : Program) (w : World) (K : PySem.W.Frag) (mg : Str → Option Value) (base : Heap) (D : Addr) (es : Array DictEntry) (n : Nat) : Prop where
  at_ : mg "INNER_OF" = some (.ref D)
  kd : KDict K w D es n
  fn : ∀ h : Hy, ∃ f : Addr, PySem.W.nsIn K D h.word = some (some (.ref f)) ∧ Held P w K mg base 4 f (spInY K h.word)
def spInnerY (K : PySem.W.Frag) : Sp := fun vs H Q _ => ∃ (v : V) (t : Ty) (G0 : Hp) (lab : Nat → Option (List Str)), vs = [v] ∧ Same G0 H ∧ Tr K G0 v t ∧ Gd lab t ∧
  ∀ (r : Addr) (H' : Hp) (us : List V), Same H H' → Nw K G0 H H' r us → Al (fun u k => Tr K G0 u k) us t.kids → Q (.ref r) H'
abbrev s_inner_trees : Stmt := topS 27
abbrev N_inner_trees : List Str := ["value", "inner_of"]
theorem sc_inner_trees : FnScope N_inner_trees ["value"] (defScope s_inner_trees) := ⟨rfl, rfl, rfl, by decide +kernel, rfl, by decide +kernel, by decide +kernel⟩
section
variable {P : Program} {w : World} {K : PySem.W.Frag} {mg : Str → Option Value} {base : Heap}
theorem ok_inner_trees {D : Addr} {es : Array DictEntry} {n : Nat} (S : Stands K mg "inner_trees" s_inner_trees ["value"]) (Z : Blt mg) (KD : KindsY P w K mg base D es n) : DefOk P w K mg base CX0 5 "inner_trees" ["value"] (spInnerY K) := by
  have z_isinstance := Z.isinstance
  have z_tuple := Z.tuple
  have z_str := Z.str
  have c_INNER_OF := KD.at_
  have c_INNER_OF_r : RelV (.ref D) (Value.ref D) := rfl
  obtain ⟨f, fd, F, hm, hb⟩ := S
  refine ⟨f, fd, ?_, hm, F.kp, hb⟩
  have nd := sc_inner_trees.nd
  refine F.ok sc_inner_trees (fun vs H Q E h => ?_) (fun cdv A outer s0 H vs Q E hr h => ?_)
  · obtain ⟨v, t, G0, lab, rfl, _⟩ := h
    rfl
  obtain ⟨v, t, G0, lab, rfl, hG, hT, hW, q⟩ := h
  refine ⟨_, (pss_cons (ps_if (PW.pt (pw_or (pt_not (pt_val (pe_callB call_isi (by rfl) z_isinstance (by decide +kernel) (pa_cons (pv 0) (pa_cons (pe_bltn (v := .ty "tuple") (by rfl) z_tuple (by decide +kernel) rfl) pa_nil))))) (pw_or (pt_not (pt_truth (pv 0) (by intro _; rfl))) (pw_or (pt_not (pt_val (pe_callB call_isi (by rfl) z_isinstance (by decide +kernel) (pa_cons (pe_ix ix_tup (pv 0) pe_int (fun _ _ => rfl)) (pa_cons (pe_bltn (v := .ty "str") (by rfl) z_str (by decide +kernel) rfl) pa_nil))))) (pw_or1 (pt_cmpR (op_notIn_kd KD.kd) (pe_ix ix_tup (pv 0) pe_int (fun _ _ => rfl)) (pe_glob rfl c_INNER_OF c_INNER_OF_r) (by rfl))))))) (pss_one (ps_ret pe_non)) pss_nil)
      (pss_cons (ps_set (i := 1) nd rfl (Or.inl rfl) (pe_ix ix_kdict (pe_glob rfl c_INNER_OF c_INNER_OF_r) (pe_ix ix_tup (pv 0) pe_int (fun _ _ => rfl)) (fun _ _ => rfl)))
      (pss_one (ps_ret (pe_held (k := 4) (i := 1) (hr.mono (by decide)) rfl (Or.inl rfl) (pa_cons (pv 0) pa_nil)))))), ?_⟩
  obtain ⟨a, xs, rfl, hx⟩ := (hT.same hG).tuple
  obtain ⟨g, hn, hg⟩ := KD.fn t.hd
  walk_at "rd"
  refine ⟨_, .ty "tuple", _, _, true, rfl, .ty "tuple", tyT hx, kit_ty (by decide +kernel), _, rfl, ?_⟩
  refine ifF rfl ?_
  walk_at "rd"
  refine ⟨true, .inr (.inl ⟨_, hx, rfl⟩), ?_⟩
  refine ifF rfl ?_
  walk_at "rd"
  refine ⟨a, _, _, _, rfl, rfl, hx, at0, ?_⟩
  walk_at "rd"
  refine ⟨_, .ty "str", _, _, true, rfl, .ty "str", .base (.str _), kit_ty (by decide +kernel), _, rfl, ?_⟩
  refine ifF rfl ?_
  walk_at "rd"
  refine ⟨a, _, _, _, rfl, rfl, hx, at0, ?_⟩
  walk_at "rd"
  refine ⟨_, _, rfl, rfl, hn, _, rfl, ?_⟩
  refine ifF rfl ?_
  walk_at "rd"
  refine ⟨a, _, _, _, rfl, rfl, hx, at0, ?_⟩
  refine ⟨D, _, .ref g, rfl, rfl, ⟨es, n, _, KD.kd.at_, KD.kd.lit, hn, rfl⟩, ?_⟩
  walk_at "rd"
  refine ⟨g, _, rfl, hg, ?_⟩
  walk_at "rd"
  exact ⟨.ref a, t, G0, lab, rfl, rfl, hG, hT, hW, q⟩
end
end Vt


set_option Elab.async false
set_option linter.all false
set_option maxRecDepth 100000
set_option maxHeartbeats 4000000

namespace Vt
open PySem PySem.Spec PyProof.Rows L2
/-! ### what stands elsewhere than at some addresses -/
def offs (as : List Addr) (H : Hp) : Hp := fun b => if b ∈ as then none else H b
theorem offs_in {as : List Addr} {H : Hp} {b : Addr} (h : b ∈ as) : offs as H b = none := if_pos h
theorem offs_out {as : List Addr} {H : Hp} {b : Addr} (h : b ∉ as) : offs as H b = H b := if_neg h
theorem offs_same {as : List Addr} {H : Hp} : Same (offs as H) H := fun b o e => by
  by_cases h : b ∈ as
  · rw [offs_in h] at e
    cases e
  · rwa [offs_out h] at e
theorem offs_mono {as : List Addr} {H H' : Hp} (s : Same H H') : Same (offs as H) (offs as H') := fun b o e => by
  by_cases h : b ∈ as
  · rw [offs_in h] at e
    cases e
  · rw [offs_out h] at e ⊢
    exact s _ _ e
theorem offs_upd {as : List Addr} {H : Hp} {a : Addr} {o : HO} (h : a ∈ as) : offs as (upd H a o) = offs as H := funext fun b => by
  by_cases hb : b ∈ as
  · rw [offs_in hb, offs_in hb]
  · rw [offs_out hb, offs_out hb, upd_ne (fun z => hb (by rw [z]; exact h))]
theorem offs_get {as : List Addr} {H : Hp} {b : Addr} {o : HO} (e : offs as H b = some o) : b ∉ as ∧ H b = some o := by
  by_cases h : b ∈ as
  · rw [offs_in h] at e
    cases e
  · rw [offs_out h] at e
    exact ⟨h, e⟩
/-! ### the survey of a tree -/
structure Sva where
  o : Addr
  dx : Addr
  dm : Addr
  dc : Addr
  dd : Addr
abbrev Sva.all (A : Sva) : List Addr := [A.o, A.dm, A.dc, A.dd]
def fldsS (n k : Int) (A : Sva) : List (Str × V) := [("nodes", .int n), ("levels", .int k), ("marks", .ref A.dm), ("counts", .ref A.dc), ("depths", .ref A.dd)]
theorem fs_nodes {n k : Int} {A : Sva} : (fldsS n k A).lookup ("nodes" : Str) = some (V.int n) := by kernel_rfl
theorem fs_levels {n k : Int} {A : Sva} : (fldsS n k A).lookup ("levels" : Str) = some (V.int k) := by kernel_rfl
theorem fs_marks {n k : Int} {A : Sva} : (fldsS n k A).lookup ("marks" : Str) = some (V.ref A.dm) := by kernel_rfl
theorem fs_counts {n k : Int} {A : Sva} : (fldsS n k A).lookup ("counts" : Str) = some (V.ref A.dc) := by kernel_rfl
theorem fs_depths {n k : Int} {A : Sva} : (fldsS n k A).lookup ("depths" : Str) = some (V.ref A.dd) := by kernel_rfl
theorem fs_take {n k : Int} {A : Sva} : (fldsS n k A).lookup ("take" : Str) = none := by kernel_rfl
theorem fs_takes {n k : Int} {A : Sva} : (fldsS n k A).lookup ("takes_mark" : Str) = none := by kernel_rfl
theorem fs_put_nodes {n k z : Int} {A : Sva} : putF "nodes" (.int z) (fldsS n k A) = fldsS z k A := by kernel_rfl
theorem fs_put_levels {n k z : Int} {A : Sva} : putF "levels" (.int z) (fldsS n k A) = fldsS n z A := by kernel_rfl
theorem fs_init {A : Sva} : putF "depths" (.ref A.dd) (putF "counts" (.ref A.dc) (putF "marks" (.ref A.dm) (putF "levels" (.int 0) (putF "nodes" (.int 0) [])))) = fldsS 0 0 A := by kernel_rfl
/-- what is noted of a mark -/
def Noted (K : PySem.W.Frag) (lab : Nat → Option (List Str)) (G : Hp) (n : Nat) (v : V) : Prop := match lab n with
  | none => v = .non
  | some ls => ∃ l : Addr, v = .ref l ∧ SqL K G l (ls.map V.str) ∧ (∀ x ∈ ls, isName x)
theorem Noted.same {K : PySem.W.Frag} {lab : Nat → Option (List Str)} {G G' : Hp} {n : Nat} {v : V} (h : Noted K lab G n v) (s : Same G G') : Noted K lab G' n v := by
  unfold Noted at h ⊢
  split at h
  · exact h
  · obtain ⟨l, e, h1, h2⟩ := h
    exact ⟨l, e, s.seq h1, h2⟩
structure Svy (K : PySem.W.Frag) (C : Addr) (lab : Nat → Option (List Str)) (A : Sva) (E : List Addr) (n k c : Nat) (X : Hp) : Prop where
  om : A.o ≠ A.dm
  oc : A.o ≠ A.dc
  od : A.o ≠ A.dd
  mc : A.dm ≠ A.dc
  md : A.dm ≠ A.dd
  cd : A.dc ≠ A.dd
  ob : X A.o = some (.ins C A.dx (fldsS n k A))
  mks : ∃ km : List (Key × V), X A.dm = some (.dK km) ∧ km.length ≤ c ∧ ∀ (m : Nat) v, valV km (.inl (m : Int)) = some v → Noted K lab (offs (E ++ A.all) X) m v
  cs : ∃ kc : List (Key × V), X A.dc = some (.dK kc) ∧ kc.length ≤ c ∧ ∀ (m : Nat) v, valV kc (.inl (m : Int)) = some v → ∃ i : Int, v = .int i
  ds : ∃ kd : List (Key × V), X A.dd = some (.dK kd) ∧ kd.length ≤ c
theorem Svy.same {K : PySem.W.Frag} {C : Addr} {lab : Nat → Option (List Str)} {A : Sva} {E : List Addr} {n k c : Nat} {X X' : Hp} (h : Svy K C lab A E n k c X) (s : Same X X') : Svy K C lab A E n k c X' := by
  obtain ⟨a1, a2, a3, a4, a5, a6, ob, ⟨km, m1, m2, m3⟩, ⟨kc, c1, c2, c3⟩, ⟨kd, d1, d2⟩⟩ := h
  exact ⟨a1, a2, a3, a4, a5, a6, s _ _ ob, ⟨km, s _ _ m1, m2, fun m v e => (m3 m v e).same (offs_mono s)⟩, ⟨kc, s _ _ c1, c2, c3⟩, ⟨kd, s _ _ d1, d2⟩⟩
/-- the same of a heap with one more -/
theorem Svy.more {K : PySem.W.Frag} {C : Addr} {lab : Nat → Option (List Str)} {A : Sva} {E : List Addr} {n k c c' : Nat} {X : Hp} (h : Svy K C lab A E n k c X) (s : c ≤ c') : Svy K C lab A E n k c' X := by
  obtain ⟨a1, a2, a3, a4, a5, a6, ob, ⟨km, m1, m2, m3⟩, ⟨kc, c1, c2, c3⟩, ⟨kd, d1, d2⟩⟩ := h
  exact ⟨a1, a2, a3, a4, a5, a6, ob, ⟨km, m1, by omega, m3⟩, ⟨kc, c1, by omega, c3⟩, ⟨kd, d1, by omega⟩⟩
theorem Noted.dp {K : PySem.W.Frag} {lab : Nat → Option (List Str)} {G H : Hp} {n : Nat} {v u : V} (a : Noted K lab G n v) (b : Noted K lab G n u) (s : Same G H) :
    ∃ d, Dp K H v d ∧ Dp K H u d ∧ SeqAt.shaped d = true ∧ PyData.eqv d d = true := by
  unfold Noted at a b
  split at a
  · rename_i e
    rw [e] at b
    subst a b
    exact ⟨.none, .non, .non, rfl, rfl⟩
  · rename_i ls e
    rw [e] at b
    obtain ⟨l, rfl, h1, h2⟩ := a
    obtain ⟨l', rfl, h3, _⟩ := b
    exact ⟨.list (ls.map .str), .lst (s.seq h1) (dpStrs ls), .lst (s.seq h3) (dpStrs ls), strs_shaped ls h2, SeqAt.eqv_refl _ (SeqAt.canLay_of_shaped (strs_shaped ls h2))⟩
theorem Svy.setm {K : PySem.W.Frag} {C : Addr} {lab : Nat → Option (List Str)} {A : Sva} {E : List Addr} {n k c : Nat} {X : Hp} (h : Svy K C lab A E n k c X) {km : List (Key × V)} (l : km.length ≤ c) (f : ∀ (m : Nat) v, valV km (.inl (m : Int)) = some v → Noted K lab (offs (E ++ A.all) X) m v) :
    Svy K C lab A E n k c (upd X A.dm (.dK km)) := by
  obtain ⟨a1, a2, a3, a4, a5, a6, ob, ⟨km0, m1, m2, m3⟩, ⟨kc, c1, c2, c3⟩, ⟨kd, d1, d2⟩⟩ := h
  refine ⟨a1, a2, a3, a4, a5, a6, by rw [upd_ne a1]; exact ob, ⟨km, upd_same, l, fun m v e => ?_⟩, ⟨kc, by rw [upd_ne a4.symm]; exact c1, c2, c3⟩, ⟨kd, by rw [upd_ne a5.symm]; exact d1, d2⟩⟩
  rw [offs_upd (by simp)]
  exact f m v e
theorem Svy.setc {K : PySem.W.Frag} {C : Addr} {lab : Nat → Option (List Str)} {A : Sva} {E : List Addr} {n k c : Nat} {X : Hp} (h : Svy K C lab A E n k c X) {kc : List (Key × V)} (l : kc.length ≤ c) (f : ∀ (m : Nat) v, valV kc (.inl (m : Int)) = some v → ∃ i : Int, v = .int i) :
    Svy K C lab A E n k c (upd X A.dc (.dK kc)) := by
  obtain ⟨a1, a2, a3, a4, a5, a6, ob, ⟨km, m1, m2, m3⟩, ⟨kc0, c1, c2, c3⟩, ⟨kd, d1, d2⟩⟩ := h
  refine ⟨a1, a2, a3, a4, a5, a6, by rw [upd_ne a2]; exact ob, ⟨km, by rw [upd_ne a4]; exact m1, m2, fun m v e => ?_⟩, ⟨kc, upd_same, l, f⟩, ⟨kd, by rw [upd_ne a6.symm]; exact d1, d2⟩⟩
  rw [offs_upd (by simp)]
  exact m3 m v e
theorem Svy.setd {K : PySem.W.Frag} {C : Addr} {lab : Nat → Option (List Str)} {A : Sva} {E : List Addr} {n k c : Nat} {X : Hp} (h : Svy K C lab A E n k c X) {kd : List (Key × V)} (l : kd.length ≤ c) : Svy K C lab A E n k c (upd X A.dd (.dK kd)) := by
  obtain ⟨a1, a2, a3, a4, a5, a6, ob, ⟨km, m1, m2, m3⟩, ⟨kc, c1, c2, c3⟩, ⟨kd0, d1, d2⟩⟩ := h
  refine ⟨a1, a2, a3, a4, a5, a6, by rw [upd_ne a3]; exact ob, ⟨km, by rw [upd_ne a5]; exact m1, m2, fun m v e => ?_⟩, ⟨kc, by rw [upd_ne a6]; exact c1, c2, c3⟩, ⟨kd, upd_same, l⟩⟩
  rw [offs_upd (by simp)]
  exact m3 m v e
theorem Svy.seto {K : PySem.W.Frag} {C : Addr} {lab : Nat → Option (List Str)} {A : Sva} {E : List Addr} {n k c : Nat} {X : Hp} (h : Svy K C lab A E n k c X) (n' k' : Nat) : Svy K C lab A E n' k' c (upd X A.o (.ins C A.dx (fldsS n' k' A))) := by
  obtain ⟨a1, a2, a3, a4, a5, a6, ob, ⟨km, m1, m2, m3⟩, ⟨kc, c1, c2, c3⟩, ⟨kd, d1, d2⟩⟩ := h
  refine ⟨a1, a2, a3, a4, a5, a6, upd_same, ⟨km, by rw [upd_ne a1.symm]; exact m1, m2, fun m v e => ?_⟩, ⟨kc, by rw [upd_ne a2.symm]; exact c1, c2, c3⟩, ⟨kd, by rw [upd_ne a3.symm]; exact d1, d2⟩⟩
  rw [offs_upd (by simp)]
  exact m3 m v e
theorem w_rec (h : Hy) : decide (V.str h.word = V.str "record") = (match h with | .rcd _ _ => true | _ => false) := by cases h <;> kernel_rfl
theorem w_var (h : Hy) : decide (V.str h.word = V.str "var") = (match h with | .var _ => true | _ => false) := by cases h <;> kernel_rfl
theorem sm9 {n : Nat} (h : n ≤ 1000000) : n < sizeLine := Nat.lt_of_le_of_lt h (by decide)
theorem offs_sub {as bs : List Addr} {H : Hp} (s : ∀ b ∈ bs, b ∈ as) : Same (offs as H) (offs bs H) := fun b o e => by
  obtain ⟨h1, h2⟩ := offs_get e
  rw [offs_out fun z => h1 (s b z)]
  exact h2
theorem Svy.less {K : PySem.W.Frag} {C : Addr} {lab : Nat → Option (List Str)} {A : Sva} {E : List Addr} {n k c : Nat} {X : Hp} (h : Svy K C lab A E n k c X) : Svy K C lab A [] n k c X := by
  obtain ⟨a1, a2, a3, a4, a5, a6, ob, ⟨km, m1, m2, m3⟩, cs, ds⟩ := h
  exact ⟨a1, a2, a3, a4, a5, a6, ob, ⟨km, m1, m2, fun m v e => (m3 m v e).same (offs_sub fun b hb => by simp at hb ⊢; exact .inr hb)⟩, cs, ds⟩
theorem Svy.nw {K : PySem.W.Frag} {C : Addr} {lab : Nat → Option (List Str)} {A : Sva} {n k c : Nat} {X : Hp} (h : Svy K C lab A [] n k c X) {B : Addr} (hB : X B = none) (o : HO) : Svy K C lab A [B] n k c (upd X B o) := by
  have s : Same (offs ([] ++ A.all) X) (offs ([B] ++ A.all) (upd X B o)) := fun b u e => by
    obtain ⟨h1, h2⟩ := offs_get e
    have nb : b ≠ B := ne_of_none h2 hB
    rw [offs_out (fun z => (List.mem_append.mp z).elim (fun z => nb (List.mem_singleton.mp z)) fun z => h1 (List.mem_append.mpr (.inr z))), upd_ne nb]
    exact h2
  obtain ⟨a1, a2, a3, a4, a5, a6, ob, ⟨km, m1, m2, m3⟩, ⟨kc, c1, c2⟩, ⟨kd, d1, d2⟩⟩ := h
  have st := same_new hB o
  exact ⟨a1, a2, a3, a4, a5, a6, st _ _ ob, ⟨km, st _ _ m1, m2, fun m v e => (m3 m v e).same s⟩, ⟨kc, st _ _ c1, c2⟩, ⟨kd, st _ _ d1, d2⟩⟩
theorem Svy.other {K : PySem.W.Frag} {C : Addr} {lab : Nat → Option (List Str)} {A : Sva} {E : List Addr} {n k c : Nat} {X : Hp} (h : Svy K C lab A E n k c X) {B : Addr} (hE : B ∈ E) (hA : B ∉ A.all) (o : HO) : Svy K C lab A E n k c (upd X B o) := by
  obtain ⟨a1, a2, a3, a4, a5, a6, ob, ⟨km, m1, m2, m3⟩, ⟨kc, c1, c2⟩, ⟨kd, d1, d2⟩⟩ := h
  have ne : ∀ b ∈ A.all, b ≠ B := fun b hb z => hA (z ▸ hb)
  have e : offs (E ++ A.all) (upd X B o) = offs (E ++ A.all) X := offs_upd (List.mem_append.mpr (.inl hE))
  exact ⟨a1, a2, a3, a4, a5, a6, by rw [upd_ne (ne _ (by simp))]; exact ob, ⟨km, by rw [upd_ne (ne _ (by simp))]; exact m1, m2, fun m v z => by rw [e]; exact m3 m v z⟩, ⟨kc, by rw [upd_ne (ne _ (by simp))]; exact c1, c2⟩, ⟨kd, by rw [upd_ne (ne _ (by simp))]; exact d1, d2⟩⟩
theorem Svy.nin {K : PySem.W.Frag} {C : Addr} {lab : Nat → Option (List Str)} {A : Sva} {E : List Addr} {n k c : Nat} {X : Hp} (h : Svy K C lab A E n k c X) {p : Addr} (hp : X p = none) : p ∉ A.all := fun z => by
  simp only [List.mem_cons, List.not_mem_nil, or_false] at z
  obtain ⟨_, _, _, _, _, _, ob, ⟨_, m1, _⟩, ⟨_, c1, _⟩, ⟨_, d1, _⟩⟩ := h
  rcases z with rfl | rfl | rfl | rfl
  · rw [ob] at hp; cases hp
  · rw [m1] at hp; cases hp
  · rw [c1] at hp; cases hp
  · rw [d1] at hp; cases hp
/-- what the walk asks of the class as the top has made it -/
structure SvC (K : PySem.W.Frag) (mg : Str → Option Value) (C : Addr) : Prop where
  cl : Cls K C
  n1 : NoAttr K C "nodes"
  n2 : NoAttr K C "levels"
  n3 : NoAttr K C "marks"
  n4 : NoAttr K C "counts"
  n5 : NoAttr K C "depths"
  mgC : mg "Survey" = some (Value.ref C)
/-- a method as it stands behind the top; one that keeps a promise -/
def StandsM (K : PySem.W.Frag) (C : Addr) (m q : Str) (st : Stmt) (ps : List Str) : Prop :=
  ∃ f fd, Fun K m q st f fd ∧ Meth K C m f ∧ Binds K fd ps []
def DefOkM (P : Program) (w : World) (K : PySem.W.Frag) (mg : Str → Option Value) (base : Heap) (CX : CXT) (k : Nat) (C : Addr) (m : Str) (ps : List Str) (sp : Sp) : Prop :=
  ∃ f fd, FnOk P w K mg base CX k f fd ps sp ∧ Meth K C m f ∧ Binds K fd ps []
def StandsI (K : PySem.W.Frag) (C : Addr) (q : Str) (st : Stmt) (ps : List Str) : Prop :=
  ∃ f fd, Fun K "__init__" q st f fd ∧ Mk K C f ∧ Binds K fd ps []
def DefOkI (P : Program) (w : World) (K : PySem.W.Frag) (mg : Str → Option Value) (base : Heap) (CX : CXT) (k : Nat) (C : Addr) (ps : List Str) (sp : Sp) : Prop :=
  ∃ f fd, FnOk P w K mg base CX k f fd ps sp ∧ Mk K C f ∧ Binds K fd ps []
def spLabs (K : PySem.W.Frag) : Sp := fun vs H Q _ => ∃ (v : V) (ls : List Str) (m : Option Nat) (ts : List Ty) (G0 : Hp), vs = [v] ∧ Same G0 H ∧ Tr K G0 v (.node (.rcd ls m) ts) ∧ ls.length ≤ 60 ∧
  ∀ (p : Addr) (H' : Hp), Same H H' → H p = none → H' p = some (.lst (ls.map V.str)) → Q (.ref p) H'
def spTakes (K : PySem.W.Frag) (C : Addr) : Sp := fun vs H Q _ => ∃ (A : Sva) (E : List Addr) (lab : Nat → Option (List Str)) (n k c : Nat) (v : V) (h : Hy) (ks : List Ty), vs = [.ref A.o, v] ∧ Svy K C lab A E n k c H ∧ (∀ b ∈ E, H b ≠ none) ∧ c ≤ 900000 ∧ Tr K (offs A.all H) v (.node h ks) ∧ Gd lab (.node h ks) ∧
  ((∃ m, h = .var m) ∨ ∃ ls m, h = .rcd ls m) ∧ ∀ H', Svy K C lab A E n k (c + 3) H' → Same (offs A.all H) (offs A.all H') → Q (.bl true) H'
abbrev s_labels_of : Stmt := topS 28
abbrev N_labels_of : List Str := ["node", "name", "_"]
theorem sc_labels_of : FnScope N_labels_of ["node"] (defScope s_labels_of) := ⟨rfl, rfl, rfl, by decide +kernel, rfl, by decide +kernel, by decide +kernel⟩
abbrev s_Survey_takes_mark : Stmt := inClass (topS 30) 1
abbrev N_Survey_takes_mark : List Str := ["self", "node", "mark", "labels"]
theorem sc_Survey_takes_mark : FnScope N_Survey_takes_mark ["self", "node"] (defScope s_Survey_takes_mark) := ⟨rfl, rfl, rfl, by decide +kernel, rfl, by decide +kernel, by decide +kernel⟩
section
variable {P : Program} {w : World} {K : PySem.W.Frag} {mg : Str → Option Value} {base : Heap} {C : Addr}
theorem ok_labels_of (S : Stands K mg "labels_of" s_labels_of ["node"]) : DefOk P w K mg base CX0 1 "labels_of" ["node"] (spLabs K) := by
  obtain ⟨f, fd, F, hm, hb⟩ := S
  refine ⟨f, fd, ?_, hm, F.kp, hb⟩
  have nd := sc_labels_of.nd
  refine F.ok sc_labels_of (fun vs H Q E h => ?_) (fun cdv A outer s0 H vs Q E hr h => ?_)
  · obtain ⟨v, ls, m, ts, G0, rfl, _⟩ := h
    rfl
  obtain ⟨v, ls, m, ts, G0, rfl, hG, hT, hl, q⟩ := h
  refine ⟨_, (pss_one (ps_ret (pe_ifExp (pt_cmpR op_eq (pe_ix ix_tup (pv 0) pe_int (fun _ _ => rfl)) pe_str (nomark _)) (pe_lc (own := [("name", 1), ("_", 2)]) (g := gTup K 2 (gCons (gName 1) (gCons (gName 2) gNil))) (tt := tYes) rfl nd (pi_list (pe_ix ix_tup (pv 0) pe_int (fun _ _ => rfl))) (blkOk_by (N := N_labels_of) (sc := defScope s_labels_of) (by decide +kernel)) (fun _ _ _ _ _ => (pg_tup rfl (pgs_cons (pg_name (i := 1) nd rfl (Or.inl rfl)) (pgs_cons (pg_name (i := 2) nd rfl (Or.inl rfl)) pgs_nil)))) (fun _ _ _ _ _ => pts_nil) (fun _ _ _ _ _ => (pv 1))) (pe_lst pa_nil)))), ?_⟩
  cases hT with
  | @rcd a l bs us ls ts m h1 h2 h3 h4 h5 h6 h7 =>
    have hx := hG.tupS h1
    refine ⟨_, rfl, a, _, _, _, rfl, rfl, hx, at0, rfl, _, rfl, ifT (decide_eq_true rfl) ?_⟩
    refine ⟨_, rfl, a, _, _, _, rfl, rfl, hx, rfl, ?_⟩
    refine ⟨l, rfl, ⟨_, hG.seq h2⟩, fun D hD => ?_⟩
    refine lc_list (K := K) (a := l) (xs := bs.map V.ref) (fun i X => ∃ (G : Hp), Same G X ∧ G D = none ∧ Same H G ∧ X D = some (.lst ((ls.take i).map V.str)))
      ⟨H, same_new hD _, hD, Same.refl _, upd_same⟩ (fun i X hi ⟨G, g1, _, g3, _⟩ => (g3.trans g1).seq (hG.seq h2)) ?_ ?_
    · rintro i x X hx ⟨G, g1, g2, g3, g4⟩
      obtain ⟨b, hb1, hb2, rfl⟩ := get_map hx
      have hi := (List.getElem?_eq_some_iff.mp hb2).1
      have hu : us[i]? = some (us[i]'(by omega)) := List.getElem?_eq_getElem (by omega)
      have hn : ls[i]? = some (ls[i]'(by omega)) := List.getElem?_eq_getElem (by omega)
      have ht := (hG.trans (g3.trans g1)).tupS (h6 i b _ _ hb2 hn hu)
      refine ⟨b, _, rfl, ht, rfl, ?_⟩
      refine ⟨_, _, rfl, ⟨_, _, rfl, rfl, ?_⟩⟩
      refine ⟨rfl, ?_⟩
      walk_at "rd"
      refine ⟨_, g4, small1000 (by rw [List.length_map, List.length_take]; omega), G, g1.wr g2, g2, g3, ?_⟩
      rw [upd_same, List.take_add_one, hn, List.map_append]
      rfl
    · rintro X ⟨G, g1, g2, g3, g4⟩
      rw [List.length_map, List.take_of_length_le (by omega)] at g4
      exact q D X (g3.trans g1) hD g4
theorem ok_takes_mark (T : SvC K mg C) (S : StandsM K C "takes_mark" "Survey.takes_mark" s_Survey_takes_mark ["self", "node"]) (H_labels_of : DefOk P w K mg base CX0 1 "labels_of" ["node"] (spLabs K)) : DefOkM P w K mg base CX0 2 C "takes_mark" ["self", "node"] (spTakes K C) := by
  obtain ⟨f, fd, F, hm, hb⟩ := S
  obtain ⟨f_labels_of, fd_labels_of, G_labels_of, m_labels_of, k_labels_of, b_labels_of⟩ := H_labels_of
  refine ⟨f, fd, ?_, hm, hb⟩
  have nd := sc_Survey_takes_mark.nd
  refine F.ok sc_Survey_takes_mark (fun vs H Q E h => ?_) (fun cdv A outer s0 H vs Q E hr h => ?_)
  · obtain ⟨A, Ex, lab, n, k, c, v, h, ks, rfl, _⟩ := h
    rfl
  obtain ⟨A, Ex, lab, n, k, c, v, h, ks, rfl, hS, hEx, hc, hT, hW, hk, q⟩ := h
  have hu1 := hu_of hr
  refine ⟨_, (pss_cons (ps_set (i := 2) nd rfl (Or.inl rfl) (pe_ix ix_tup (pv 1) (pe_un un_neg pe_int) (fun _ _ => rfl)))
      (pss_cons (ps_set (i := 3) nd rfl (Or.inl rfl) pe_non)
      (C8.pss_cut (ps_if (pt_cmpR op_eq (pe_ix ix_tup (pv 1) pe_int (fun _ _ => rfl)) pe_str (nomark _)) (pss_cons (ps_if (pt_cmpR op_isN (pv 2) pe_non (nomark _)) (pss_one (ps_ret pe_bl)) pss_nil)
      (pss_one (ps_set (i := 3) nd rfl (Or.inl rfl) (pe_call G_labels_of (hr.mono (by decide)) rfl m_labels_of k_labels_of b_labels_of .nil pass0 (pa_cons (pv 1) pa_nil))))) pss_nil)
      (pss_cons (ps_dput hu1 (pe_fld (pv 0) rfl) (pv 2) (pe_op op_add (pe_dget2 hu1 (pe_fld (pv 0) rfl) (pv 2) pe_int ⟨rfl, rfl, rfl, rfl⟩) pe_int) rfl)
      (pss_cons (ps_dput hu1 (pe_fld (pv 0) rfl) (pv 2) (pe_fld (pv 0) rfl) rfl)
      (pss_one (ps_ret (pe_cmpR (op_eqD hr.units) (pe_dsetd (pe_fld (pv 0) rfl) (pv 2) (pv 3) ⟨rfl, rfl, rfl, rfl⟩) (pv 3) (nomark _))))))))), ?_⟩
  have hT0 := hT.same offs_same
  have fit := hW.fit
  have key : ∃ (a : Addr) (xs : List V) (val : V), v = .ref a ∧ SqT K H a (.str h.word :: xs) ∧ atI (.str h.word :: xs) (-1) = some val ∧ ((∃ m, h = .var m ∧ val = .int (m : Nat) ∧ lab m = none) ∨ ∃ ls m, h = .rcd ls m ∧ val = tailV m ∧ ls.length ≤ 60 ∧ (∀ x ∈ ls, isName x) ∧ ∀ k, m = some k → lab k = some ls) := by
    rcases hk with ⟨m, rfl⟩ | ⟨ls, m, rfl⟩
    · cases hT0 with
      | @var a n h1 => exact ⟨a, _, _, rfl, h1, rfl, .inl ⟨m, rfl, rfl, fit.2⟩⟩
    · cases hT0 with
      | @rcd a l bs us ls ts m h1 => exact ⟨a, _, _, rfl, h1, rfl, .inr ⟨ls, m, rfl, rfl, fit.1, fit.2.1, fun k e => (fit.2.2.2 k e).2⟩⟩
  obtain ⟨a, xs, val, rfl, hx, hlast, hval⟩ := key
  refine ⟨_, rfl, _, rfl, a, _, _, _, rfl, rfl, hx, hlast, ?_⟩
  refine gn ?_
  refine gn ?_
  refine ⟨fun σ' H' => ∃ (m : Nat) (lv : V), σ' = [some (.ref A.o), some (.ref a), some (.int (m : Nat)), some lv] ∧ Svy K C lab A Ex n k c H' ∧ Same (offs A.all H) (offs A.all H') ∧ Noted K lab (offs (Ex ++ A.all) H') m lv, ?_, ?_⟩
  · refine ⟨_, rfl, a, _, _, _, rfl, rfl, hx, at0, rfl, _, rfl, ?_⟩
    rw [w_rec]
    rcases hval with ⟨m, rfl, rfl, hl⟩ | ⟨ls, m, rfl, rfl, hl, hn, hm⟩
    · refine ifF rfl ?_
      exact ⟨m, .non, rfl, hS, Same.refl _, by unfold Noted; rw [hl]⟩
    · refine ifT rfl ?_
      refine ⟨_, rfl, rfl, _, rfl, ?_⟩
      cases m with
      | none =>
        refine ifT rfl ?_
        exact q H (hS.more (by omega)) (Same.refl _)
      | some m =>
        refine ifF rfl ?_
        refine ⟨_, rfl, .ref a, ls, some m, ks, _, rfl, offs_same, hT, hl, fun p H' S1 hp ep => ?_⟩
        refine gn ?_
        have hS1 := hS.same S1
        have hpE : p ∉ Ex := fun z => hEx p z hp
        have hpA : p ∉ A.all := hS.nin hp
        refine ⟨m, .ref p, rfl, hS1, offs_mono S1, ?_⟩
        unfold Noted
        rw [hm m rfl]
        exact ⟨p, rfl, SqL.of (by rw [offs_out (fun z => (List.mem_append.mp z).elim hpE hpA)]; exact ep), hn⟩
  · rintro σ' H' ⟨m, lv, rfl, hS', S1, hnt⟩
    obtain ⟨a1, a2, a3, a4, a5, a6, ob, ⟨km, m1, m2, m3⟩, ⟨kc, c1, c2, c3⟩, ⟨kd, d1, d2⟩⟩ := id hS'
    obtain ⟨i, hi⟩ : ∃ i : Int, (valV kc (.inl (m : Int))).getD (.int 0) = .int i := by
      cases e : valV kc (.inl (m : Int)) with
      | none => exact ⟨0, rfl⟩
      | some v =>
        obtain ⟨i, rfl⟩ := c3 m v e
        exact ⟨i, rfl⟩
    have lc := length_putK kc (.inl (m : Int)) (V.int (i + 1))
    have ld := length_putK kd (.inl (m : Int)) (V.int (k : Nat))
    have lm := length_putK km (.inl (m : Int)) lv
    have h1 := (hS'.more (by omega : c ≤ c + 1)).setc (kc := putK kc (.inl (m : Int)) (V.int (i + 1))) (by omega) (fun m' v e => by
      rw [valV_put] at e
      split at e
      · injection e with e
        exact ⟨_, e.symm⟩
      · exact c3 m' v e)
    refine ⟨_, rfl, A.o, C, A.dx, _, _, rfl, ob, T.cl, T.n4, fs_counts, A.dc, rfl, .inl ⟨kc, .inl c1⟩, _, rfl, _, DGet.k (k := .inl (m : Int)) c1, i, 1, hi, rfl, ?_⟩
    refine ⟨_, rfl, A.o, C, A.dx, _, _, rfl, ob, T.cl, T.n4, fs_counts, _, rfl, A.dc, _, rfl, DPut.k (k := .inl (m : Int)) c1 (sm9 (by omega)), ?_⟩
    have e1 : offs A.all (upd H' A.dc (.dK (putK kc (.inl (m : Int)) (V.int (i + 1))))) = offs A.all H' := offs_upd (by simp)
    have f1 : offs (Ex ++ A.all) (upd H' A.dc (.dK (putK kc (.inl (m : Int)) (V.int (i + 1))))) = offs (Ex ++ A.all) H' := offs_upd (by simp)
    generalize upd H' A.dc (.dK (putK kc (.inl (m : Int)) (V.int (i + 1)))) = H2 at *
    have ob2 := h1.ob
    obtain ⟨kd2, d21, d22⟩ := h1.ds
    have ld2 := length_putK kd2 (.inl (m : Int)) (V.int (k : Nat))
    refine ⟨_, rfl, A.o, C, A.dx, _, _, rfl, ob2, T.cl, T.n2, fs_levels, _, rfl, A.o, C, A.dx, _, _, rfl, ob2, T.cl, T.n5, fs_depths, _, rfl, A.dd, _, rfl, DPut.k (k := .inl (m : Int)) d21 (sm9 (by omega)), ?_⟩
    have h2 := (h1.more (by omega : c + 1 ≤ c + 2)).setd (kd := putK kd2 (.inl (m : Int)) (V.int (k : Nat))) (by omega)
    have e2 : offs A.all (upd H2 A.dd (.dK (putK kd2 (.inl (m : Int)) (V.int (k : Nat))))) = offs A.all H2 := offs_upd (by simp)
    have f2 : offs (Ex ++ A.all) (upd H2 A.dd (.dK (putK kd2 (.inl (m : Int)) (V.int (k : Nat))))) = offs (Ex ++ A.all) H2 := offs_upd (by simp)
    generalize upd H2 A.dd (.dK (putK kd2 (.inl (m : Int)) (V.int (k : Nat)))) = H3 at *
    have ob3 := h2.ob
    obtain ⟨km3, m31, m32, m33⟩ := h2.mks
    have lm3 := length_putK km3 (.inl (m : Int)) lv
    have so : Same (offs A.all H) (offs A.all H3) := by rw [e2, e1]; exact S1
    have hn3 : Noted K lab (offs (Ex ++ A.all) H3) m lv := by rw [f2, f1]; exact hnt
    refine ⟨_, rfl, A.o, C, A.dx, _, _, rfl, ob3, T.cl, T.n3, fs_marks, A.dm, rfl, .inl ⟨km3, .inl m31⟩, _, rfl, _, rfl, km3, .inl (m : Int), m31, rfl, sm9 (by omega), fun v hv => ?_, fun hn => ?_⟩
    · obtain ⟨d, dp1, dp2, sh, ev⟩ := (m33 m v hv).dp hn3 offs_same
      refine ⟨_, rfl, d, d, dp1, dp2, sh, sh, ?_⟩
      rw [ev]
      exact q H3 (h2.more (by omega)) so
    · have h4 := (h2.more (by omega : c + 2 ≤ c + 3)).setm (km := putK km3 (.inl (m : Int)) lv) (by omega) (fun m' v e => by
        rw [valV_put] at e
        split at e
        · rename_i z
          injection e with e
          injection z with z
          rw [← e, Int.ofNat.inj z]
          exact hn3
        · exact m33 m' v e)
      have e4 : offs A.all (upd H3 A.dm (.dK (putK km3 (.inl (m : Int)) lv))) = offs A.all H3 := offs_upd (by simp)
      have f4 : offs (Ex ++ A.all) (upd H3 A.dm (.dK (putK km3 (.inl (m : Int)) lv))) = offs (Ex ++ A.all) H3 := offs_upd (by simp)
      obtain ⟨d, dp1, dp2, sh, ev⟩ := hn3.dp hn3 (show Same (offs (Ex ++ A.all) H3) (upd H3 A.dm (.dK (putK km3 (.inl (m : Int)) lv))) from by rw [← f4]; exact offs_same)
      refine ⟨_, rfl, d, d, dp1, dp2, sh, sh, ?_⟩
      rw [ev]
      exact q _ h4 (by rw [e4]; exact so)
end
end Vt


set_option Elab.async false
set_option linter.all false
set_option maxRecDepth 100000
set_option maxHeartbeats 4000000

namespace Vt
open PySem PySem.Spec PyProof.Rows L2
def spTake (K : PySem.W.Frag) (C : Addr) : Sp := fun vs H Q _ => ∃ (A : Sva) (lab : Nat → Option (List Str)) (n k c : Nat) (lvl : Addr) (us : List V) (ts : List Ty), vs = [.ref A.o, .ref lvl] ∧ Svy K C lab A [] n k c H ∧ c + 3 * Ty.sizes ts ≤ 900000 ∧ Sq K (offs A.all H) lvl us ∧ Al (fun u t => Tr K (offs A.all H) u t) us ts ∧ (∀ t ∈ ts, Gd lab t) ∧
  n + Ty.sizes ts ≤ 1000 ∧ k + Ty.deeps ts ≤ 100 ∧ ts ≠ [] ∧ ∀ (B : Addr) (vs : List V) (H' : Hp), Svy K C lab A [] (n + ts.length) (k + 1) (c + 3 * ts.length) H' → Same (offs A.all H) (offs A.all H') → offs A.all H' B = some (.lst vs) → Al (fun u t => Tr K (offs A.all H') u t) vs (ts.flatMap Ty.kids) → Q (.ref B) H'
def spSurInit (K : PySem.W.Frag) (C : Addr) : Sp := fun vs H Q _ => ∃ (o dx : Addr), vs = [.ref o] ∧ H o = some (.ins C dx []) ∧ ∀ (A : Sva) (H' : Hp), A.o = o → (∀ b ∈ [A.dm, A.dc, A.dd], H b = none) → (∀ lab, Svy K C lab A [] 0 0 0 H') → Keep o H H' → Q .non H'
theorem keep_none {o b : Addr} {H H1 : Hp} (k : Keep o H H1) (n : b ≠ o) (h : H1 b = none) : H b = none := by
  cases e : H b with
  | none => rfl
  | some u =>
    have := k b u n e
    rw [h] at this
    cases this
theorem putF_len (f : Str) (v : V) : ∀ fs : List (Str × V), (putF f v fs).length ≤ fs.length + 1
  | [] => by simp [putF]
  | (a, x) :: r => by
    have := putF_len f v r
    unfold putF
    split <;> simp only [List.length_cons] <;> omega
abbrev s_Survey___init__ : Stmt := inClass (topS 30) 0
abbrev N_Survey___init__ : List Str := ["self"]
theorem sc_Survey___init__ : FnScope N_Survey___init__ ["self"] (defScope s_Survey___init__) := ⟨rfl, rfl, rfl, by decide +kernel, rfl, by decide +kernel, by decide +kernel⟩
abbrev s_Survey_take : Stmt := inClass (topS 30) 2
abbrev N_Survey_take : List Str := ["self", "level", "below", "node", "inner"]
theorem sc_Survey_take : FnScope N_Survey_take ["self", "level"] (defScope s_Survey_take) := ⟨rfl, rfl, rfl, by decide +kernel, rfl, by decide +kernel, by decide +kernel⟩
section
variable {P : Program} {w : World} {K : PySem.W.Frag} {mg : Str → Option Value} {base : Heap} {C : Addr}
theorem ok_sur_init (T : SvC K mg C) (S : StandsI K C "Survey.__init__" s_Survey___init__ ["self"]) : DefOkI P w K mg base CX0 1 C ["self"] (spSurInit K C) := by
  obtain ⟨f, fd, F, hm, hb⟩ := S
  refine ⟨f, fd, ?_, hm, hb⟩
  have nd := sc_Survey___init__.nd
  refine F.ok sc_Survey___init__ (fun vs H Q E h => ?_) (fun cdv A outer s0 H vs Q E hr h => ?_)
  · obtain ⟨o, dx, rfl, _⟩ := h
    rfl
  obtain ⟨o, dx, rfl, ho, q⟩ := h
  refine ⟨_, (pss_cons (ps_fld (pv 0) pe_int rfl)
      (pss_cons (ps_fld (pv 0) pe_int rfl)
      (pss_cons (ps_fld (pv 0) pe_dnewK rfl)
      (pss_cons (ps_fld (pv 0) pe_dnewK rfl)
      (pss_one (ps_fld (pv 0) pe_dnewK rfl)))))), ?_⟩
  have pl := putF_len
  refine ⟨_, rfl, o, C, dx, [], rfl, ho, T.cl, T.n1, (by show 0 < 1000; decide), ?_⟩
  refine ⟨_, rfl, o, C, dx, _, rfl, upd_same, T.cl, T.n2, Nat.lt_of_le_of_lt (pl _ _ _) (by show 1 < 1000; decide), ?_⟩
  intro dm hdm
  have k1 : Keep o H (upd (upd H o (.ins C dx (putF "nodes" (.int 0) []))) o (.ins C dx (putF "levels" (.int 0) (putF "nodes" (.int 0) [])))) := Keep.wr.trans Keep.wr
  have o1 := @upd_same (upd H o (.ins C dx (putF "nodes" (.int 0) []))) o (.ins C dx (putF "levels" (.int 0) (putF "nodes" (.int 0) [])))
  generalize upd (upd H o (.ins C dx (putF "nodes" (.int 0) []))) o (.ins C dx (putF "levels" (.int 0) (putF "nodes" (.int 0) []))) = H1 at *
  have om : o ≠ dm := ne_of_none o1 hdm
  refine ⟨_, rfl, o, C, dx, _, rfl, (upd_ne om).trans o1, T.cl, T.n3, Nat.lt_of_le_of_lt (pl _ _ _) (Nat.lt_of_le_of_lt (Nat.succ_le_succ (pl _ _ _)) (by show 2 < 1000; decide)), ?_⟩
  have fs2 : (putF "marks" (V.ref dm) (putF "levels" (.int 0) (putF "nodes" (.int 0) []))).length ≤ 3 := Nat.le_trans (pl _ _ _) (Nat.succ_le_succ (Nat.le_trans (pl _ _ _) (Nat.succ_le_succ (pl _ _ _))))
  have k2 : Keep o H (upd (upd H1 dm (.dK [])) o (.ins C dx (putF "marks" (V.ref dm) (putF "levels" (.int 0) (putF "nodes" (.int 0) []))))) := (k1.same (same_new hdm _)).trans Keep.wr
  have m2 : upd (upd H1 dm (.dK [])) o (.ins C dx (putF "marks" (V.ref dm) (putF "levels" (.int 0) (putF "nodes" (.int 0) [])))) dm = some (.dK []) := (upd_ne om.symm).trans upd_same
  have o2 := @upd_same (upd H1 dm (.dK [])) o (.ins C dx (putF "marks" (V.ref dm) (putF "levels" (.int 0) (putF "nodes" (.int 0) []))))
  generalize upd (upd H1 dm (.dK [])) o (.ins C dx (putF "marks" (V.ref dm) (putF "levels" (.int 0) (putF "nodes" (.int 0) [])))) = H2 at *
  intro dc hdc
  have oc : o ≠ dc := ne_of_none o2 hdc
  have mc : dm ≠ dc := ne_of_none m2 hdc
  refine ⟨_, rfl, o, C, dx, _, rfl, (upd_ne oc).trans o2, T.cl, T.n4, Nat.lt_of_le_of_lt fs2 (by decide), ?_⟩
  have fs3 := Nat.le_trans (pl "counts" (V.ref dc) _) (Nat.succ_le_succ fs2)
  generalize hfs : putF "marks" (V.ref dm) (putF "levels" (.int 0) (putF "nodes" (.int 0) [])) = fs at *
  have k3 : Keep o H (upd (upd H2 dc (.dK [])) o (.ins C dx (putF "counts" (V.ref dc) fs))) := (k2.same (same_new hdc _)).trans Keep.wr
  have m3 : upd (upd H2 dc (.dK [])) o (.ins C dx (putF "counts" (V.ref dc) fs)) dm = some (.dK []) := (upd_ne om.symm).trans ((upd_ne mc).trans m2)
  have c3 : upd (upd H2 dc (.dK [])) o (.ins C dx (putF "counts" (V.ref dc) fs)) dc = some (.dK []) := (upd_ne oc.symm).trans upd_same
  have o3 := @upd_same (upd H2 dc (.dK [])) o (.ins C dx (putF "counts" (V.ref dc) fs))
  generalize upd (upd H2 dc (.dK [])) o (.ins C dx (putF "counts" (V.ref dc) fs)) = H3 at *
  intro dd hdd
  have od : o ≠ dd := ne_of_none o3 hdd
  have md : dm ≠ dd := ne_of_none m3 hdd
  have cd : dc ≠ dd := ne_of_none c3 hdd
  refine ⟨_, rfl, o, C, dx, _, rfl, (upd_ne od).trans o3, T.cl, T.n5, Nat.lt_of_le_of_lt fs3 (by decide), ?_⟩
  let A : Sva := ⟨o, dx, dm, dc, dd⟩
  have ef : putF "depths" (.ref dd) (putF "counts" (.ref dc) fs) = fldsS 0 0 A := by
    rw [← hfs]
    exact fs_init (A := A)
  rw [ef]
  have z1 := keep_none k1 om.symm hdm
  have z2 := keep_none k2 oc.symm hdc
  have z3 := keep_none k3 od.symm hdd
  refine q A _ rfl (fun b hb => by
    simp only [List.mem_cons, List.not_mem_nil, or_false] at hb
    rcases hb with rfl | rfl | rfl
    · exact z1
    · exact z2
    · exact z3) (fun lab => ⟨om, oc, od, mc, md, cd, upd_same, ⟨[], (upd_ne om.symm).trans ((upd_ne md).trans m3), Nat.zero_le _, fun m v e => by cases e⟩, ⟨[], (upd_ne oc.symm).trans ((upd_ne cd).trans c3), Nat.zero_le _, fun m v e => by cases e⟩, ⟨[], (upd_ne od.symm).trans upd_same, Nat.zero_le _⟩⟩) ((k3.same (same_new hdd _)).trans Keep.wr)
theorem ok_take (Z : Blt mg) (CT : CstT mg) (T : SvC K mg C) (S : StandsM K C "take" "Survey.take" s_Survey_take ["self", "level"]) (H_inner_trees : DefOk P w K mg base CX0 5 "inner_trees" ["value"] (spInnerY K))
    (H_Survey_takes_mark : DefOkM P w K mg base CX0 2 C "takes_mark" ["self", "node"] (spTakes K C)) : DefOkM P w K mg base CX0 6 C "take" ["self", "level"] (spTake K C) := by
  have z_len := Z.len
  obtain ⟨t4, c_MOST_NODES⟩ := CT.nodes
  have c_MOST_NODES_r := @rel_int 1000 t4
  obtain ⟨t1, c_MOST_DEPTH⟩ := CT.depth
  have c_MOST_DEPTH_r := @rel_int 100 t1
  obtain ⟨f, fd, F, hm, hb⟩ := S
  obtain ⟨f_inner_trees, fd_inner_trees, G_inner_trees, m_inner_trees, k_inner_trees, b_inner_trees⟩ := H_inner_trees
  obtain ⟨f_Survey_takes_mark, fd_Survey_takes_mark, G_Survey_takes_mark, k_Survey_takes_mark, b_Survey_takes_mark⟩ := H_Survey_takes_mark
  refine ⟨f, fd, ?_, hm, hb⟩
  have nd := sc_Survey_take.nd
  refine F.ok sc_Survey_take (fun vs H Q E h => ?_) (fun cdv A outer s0 H vs Q E hr h => ?_)
  · obtain ⟨A, lab, n, k, c, lvl, us, ts, rfl, _⟩ := h
    rfl
  obtain ⟨A, lab, n, k, c, lvl, us, ts, rfl, hS, hc, hl, hal, hg, hn, hk, hne, q⟩ := h
  refine ⟨_, (pss_cons (ps_fldaug (pv 0) (pe_callB call_len_seq (by rfl) z_len (by decide +kernel) (pa_cons (pv 1) pa_nil)) in_add)
      (pss_cons (ps_if (PW.pt (pw_or (pt_cmpR op_gt (pe_fld (pv 0) rfl) (pe_glob rfl c_MOST_NODES c_MOST_NODES_r) (nomark _)) (pw_or1 (pt_cmpR op_eq (pe_fld (pv 0) rfl) (pe_glob rfl c_MOST_DEPTH c_MOST_DEPTH_r) (nomark _))))) (pss_one (ps_ret pe_non)) pss_nil)
      (pss_cons (ps_set (i := 2) nd rfl (Or.inl rfl) (pe_lst pa_nil))
      (pss_cons (ps_for PassesOwn.never rfl (pi_either (pi_list (pv 1)) (pi_tup (pv 1))) (pg_name (i := 3) nd rfl (Or.inl rfl)) (pss_cons (ps_set (i := 4) nd rfl (Or.inl rfl) (pe_call G_inner_trees (hr.mono (by decide)) rfl m_inner_trees k_inner_trees b_inner_trees .nil pass0 (pa_cons (pv 3) pa_nil)))
      (pss_cons (ps_if (pt_cmpR op_isN (pv 4) pe_non (nomark _)) (pss_one (ps_ret pe_non)) pss_nil)
      (pss_cons (ps_expr (pe_bm PySem.F.plainAttrs_list PySem.F.slot_list_extend PySem.F.type_list_extend mt_extA (pv 2) (pa_cons (pv 4) pa_nil)))
      (pss_one (ps_if (PW.pt (pw_and (PW.pt (pw_or (pt_cmpR op_eq (pe_ix ix_tup (pv 3) pe_int (fun _ _ => rfl)) pe_str (nomark _)) (pw_or1 (pt_cmpR op_eq (pe_ix ix_tup (pv 3) pe_int (fun _ _ => rfl)) pe_str (nomark _))))) (pw_and1 (pt_not (pt_val (pe_meth (pv 0) T.cl k_Survey_takes_mark G_Survey_takes_mark (hr.mono (by decide)) b_Survey_takes_mark .nil pass0 (pa_cons (pv 3) pa_nil))))))) (pss_one (ps_ret pe_non)) pss_nil))))))
      (pss_cons (ps_fldaug (pv 0) pe_int in_add)
      (pss_one (ps_ret (pv 2)))))))), ?_⟩
  have hlen := hal.1
  have hsum := ysizes_next ts
  have hdeep := ydeeps_next ts hne
  have ob := hS.ob
  refine ⟨_, rfl, A.o, C, A.dx, _, _, rfl, ob, T.cl, T.n1, fs_nodes, _, rfl, lvl, us, rfl, hl.same offs_same, _, _, rfl, rfl, A.dx, _, ob, (by show 5 < 1000; decide), ?_⟩
  have eH : upd H A.o (.ins C A.dx (putF "nodes" (.int ((n : Nat) + ((us.length : Nat) : Int))) (fldsS n k A))) = upd H A.o (.ins C A.dx (fldsS ((n + us.length : Nat) : Int) k A)) := by rw [fs_put_nodes]; rfl
  rw [eH]
  have hS1 := hS.seto (n + us.length) k
  have e1 : offs A.all (upd H A.o (.ins C A.dx (fldsS ((n + us.length : Nat) : Int) k A))) = offs A.all H := offs_upd (by simp)
  generalize upd H A.o (.ins C A.dx (fldsS ((n + us.length : Nat) : Int) k A)) = H1 at *
  have ob1 := hS1.ob
  have hls := ylen_sizes ts
  refine ⟨_, rfl, A.o, C, A.dx, _, _, rfl, ob1, T.cl, T.n1, fs_nodes, _, _, rfl, rfl, _, rfl, ?_⟩
  refine ifF (decide_eq_false (by omega)) ?_
  refine ⟨_, rfl, A.o, C, A.dx, _, _, rfl, ob1, T.cl, T.n2, fs_levels, rfl, _, rfl, ?_⟩
  refine ifF (decide_eq_false (fun z => by injection z with z; omega)) ?_
  refine ⟨sz (by simp), fun B hB => ?_⟩
  refine gn ?_
  dsimp only
  have hBA : B ∉ A.all := hS1.nin hB
  have hGB : offs A.all H B = none := by
    cases e : offs A.all H B with
    | none => rfl
    | some o =>
      rw [← e1] at e
      have := (offs_get e).2
      rw [hB] at this
      cases this
  have hSB := hS1.nw hB (.lst [])
  have hB1 := @upd_same H1 B (.lst [])
  have eG : offs (B :: A.all) (upd H1 B (.lst [])) = offs (B :: A.all) H1 := offs_upd (by simp)
  have sG : Same (offs A.all H) (offs (B :: A.all) (upd H1 B (.lst []))) := fun b o e => by
    have nb : b ≠ B := fun z => by rw [z, hGB] at e; cases e
    rw [← e1] at e
    obtain ⟨z1, z2⟩ := offs_get e
    rw [eG, offs_out (fun z => (List.mem_cons.mp z).elim nb z1)]
    exact z2
  generalize upd H1 B (.lst []) = H2 at *
  generalize hG0 : offs A.all H = G0 at *
  have hbound : (ts.flatMap Ty.kids).length ≤ 1000 := by have := ylen_sizes (ts.flatMap Ty.kids); omega
  refine for_sq (n := 1) (G := G0) (a := lvl) (xs := us) ?_ hl (fun i σ Y => ∃ (bs : List V) (s3 s4 : Option V), σ = [some (.ref A.o), some (.ref lvl), some (.ref B), s3, s4] ∧ Svy K C lab A [B] (n + us.length) k (c + 3 * i) Y ∧ Same G0 (offs (B :: A.all) Y) ∧
    Y B = some (.lst bs) ∧ Al (fun u t => Tr K G0 u t) bs ((ts.take i).flatMap Ty.kids)) ?_ (fun i σ Y ⟨_, _, _, _, _, z, _⟩ => z.trans offs_same) ?_ ?_
  · rfl
  · exact ⟨[], _, _, rfl, hSB, sG, hB1, Al.nil⟩
  · rintro i x σ Y hx ⟨bs, s3, s4, rfl, hSY, k1, k2, k3⟩
    have hi := (List.getElem?_eq_some_iff.mp hx).1
    have ht : ts[i]? = some (ts[i]'(by omega)) := List.getElem?_eq_getElem (by omega)
    have htm := hal.2 i x _ hx ht
    have hgt := hg _ (List.getElem_mem (by omega : i < ts.length))
    have etk : (ts.take (i + 1)).flatMap Ty.kids = (ts.take i).flatMap Ty.kids ++ (ts[i]'(by omega)).kids := by
      rw [List.take_add_one, ht, List.flatMap_append]
      show _ ++ (_ ++ []) = _
      rw [List.append_nil]
    have elen : ((ts.take (i + 1)).flatMap Ty.kids).length ≤ (ts.flatMap Ty.kids).length := by
      have z := congrArg (fun l => (l.flatMap Ty.kids).length) (List.take_append_drop (i + 1) ts)
      simp only [List.flatMap_append, List.length_append] at z
      omega
    generalize ts[i]'(by omega) = t at *
    have kY := k1.trans offs_same
    refine gn ?_
    refine ⟨_, rfl, x, t, G0, lab, rfl, kY, htm, hgt, fun r Y1 vs S1 hr halv => ?_⟩
    refine gn ?_
    refine ⟨_, rfl, rfl, _, rfl, ifF (decide_eq_false (fun z => by cases z)) ?_⟩
    have hlk := congrArg List.length etk
    rw [List.length_append] at hlk
    have hv1 := halv.1
    have hb1 := k3.1
    refine ⟨_, rfl, .inl ⟨rfl, _, SqL.of (S1 _ _ k2)⟩, _, rfl, B, r, bs, vs, rfl, rfl, S1 _ _ k2, hr.sq (kY.trans S1), sz (by omega), ?_⟩
    have hSY2 := (hSY.same S1).other (List.mem_singleton.mpr rfl) hBA (.lst (bs ++ vs))
    have eG2 : offs (B :: A.all) (upd Y1 B (.lst (bs ++ vs))) = offs (B :: A.all) Y1 := offs_upd (by simp)
    have k12 : Same G0 (offs (B :: A.all) (upd Y1 B (.lst (bs ++ vs)))) := by
      rw [eG2]
      exact k1.trans (offs_mono S1)
    have hB2 := @upd_same Y1 B (.lst (bs ++ vs))
    generalize upd Y1 B (.lst (bs ++ vs)) = Y2 at *
    have kY2 := k12.trans offs_same
    have kA2 : Same G0 (offs A.all Y2) := k12.trans (offs_sub fun b hb => List.mem_cons_of_mem _ hb)
    obtain ⟨a, xs, rfl, hx0⟩ := htm.tuple
    have hx2 := kY2.tupS hx0
    have fin : ∀ Y3, Svy K C lab A [B] (n + us.length) k (c + 3 * (i + 1)) Y3 → Same (offs A.all Y2) (offs A.all Y3) → ∃ (bs : List V) (s3' s4' : Option V), [some (V.ref A.o), some (V.ref lvl), some (V.ref B), some (V.ref a), some (V.ref r)] = [some (V.ref A.o), some (V.ref lvl), some (V.ref B), s3', s4'] ∧ Svy K C lab A [B] (n + us.length) k (c + 3 * (i + 1)) Y3 ∧ Same G0 (offs (B :: A.all) Y3) ∧
        Y3 B = some (.lst bs) ∧ Al (fun u t => Tr K G0 u t) bs ((ts.take (i + 1)).flatMap Ty.kids) := fun Y3 h3 s3 => by
      refine ⟨bs ++ vs, _, _, rfl, h3, fun b o e => ?_, ?_, ?_⟩
      · have z := s3 _ _ (kA2 _ _ e)
        have nb : b ≠ B := fun z => by rw [z, hGB] at e; cases e
        obtain ⟨z1, z2⟩ := offs_get z
        rw [offs_out (fun z => (List.mem_cons.mp z).elim nb z1)]
        exact z2
      · exact (offs_get (s3 B _ (by rw [offs_out hBA]; exact hB2))).2
      · rw [etk]
        exact k3.app halv
    have meth : ∀ (h : Hy) (ks : List Ty), t = .node h ks → ((∃ m, h = .var m) ∨ ∃ ls m, h = .rcd ls m) → ∀ (R : VK), (∀ Y3, Svy K C lab A [B] (n + us.length) k (c + 3 * (i + 1)) Y3 → Same (offs A.all Y2) (offs A.all Y3) → R (.bl true) Y3) →
        tMeth C "takes_mark" (spTakes K C) [] E0 (tVar 0) (tCons (tVar 3) tNil) [some (V.ref A.o), some (V.ref lvl), some (V.ref B), some (V.ref a), some (V.ref r)] Y2 R := fun h ks et hk R hR => by
      subst et
      have hci : i ≤ Ty.sizes ts := by have := ylen_sizes ts; omega
      exact ⟨_, rfl, A.o, A.dx, _, rfl, hSY2.ob, fs_takes, _, rfl, A, [B], lab, _, _, _, .ref a, h, ks, rfl, hSY2, (fun b hb => by rw [List.mem_singleton.mp hb, hB2]; simp), by omega, htm.same kA2, hgt, hk, fun Y3 h3 s3 => hR Y3 (by rw [Nat.mul_succ, ← Nat.add_assoc]; exact h3) s3⟩
    have more : Svy K C lab A [B] (n + us.length) k (c + 3 * (i + 1)) Y2 := hSY2.more (by omega)
    refine ⟨_, rfl, a, _, _, _, rfl, rfl, hx2, at0, rfl, _, rfl, ?_⟩
    rw [w_var]
    cases t with
    | node h ks =>
      cases h with
      | var m =>
        refine ifT rfl ?_
        dsimp only
        refine ifT rfl ?_
        exact meth _ _ rfl (.inl ⟨m, rfl⟩) _ fun Y3 h3 s3 => ⟨_, rfl, ifF rfl (fin Y3 h3 s3)⟩
      | rcd ls m =>
        refine ifF rfl ⟨_, rfl, a, _, _, _, rfl, rfl, hx2, at0, rfl, _, rfl, ?_⟩
        rw [w_rec]
        refine ifT rfl ?_
        exact meth _ _ rfl (.inr ⟨ls, m, rfl⟩) _ fun Y3 h3 s3 => ⟨_, rfl, ifF rfl (fin Y3 h3 s3)⟩
      | _ =>
        refine ifF rfl ⟨_, rfl, a, _, _, _, rfl, rfl, hx2, at0, rfl, _, rfl, ?_⟩
        rw [w_rec]
        refine ifF rfl ?_
        dsimp only
        refine ifF rfl ?_
        exact fin Y2 more (Same.refl _)
  · rintro σ Y ⟨bs, s3, s4, rfl, hSY, k1, k2, k3⟩
    rw [hlen, List.take_length] at k3
    have ob2 := hSY.ob
    refine ⟨_, rfl, A.o, C, A.dx, _, _, rfl, ob2, T.cl, T.n2, fs_levels, _, _, rfl, rfl, A.dx, _, ob2, (by show 5 < 1000; decide), ?_⟩
    have eH2 : upd Y A.o (.ins C A.dx (putF "levels" (.int ((k : Nat) + 1)) (fldsS ((n + us.length : Nat) : Int) k A))) = upd Y A.o (.ins C A.dx (fldsS ((n + us.length : Nat) : Int) ((k + 1 : Nat) : Int) A)) := by rw [fs_put_levels]; rfl
    rw [eH2]
    have hS3 := hSY.less.seto (n + us.length) (k + 1)
    have e3 : offs A.all (upd Y A.o (.ins C A.dx (fldsS ((n + us.length : Nat) : Int) ((k + 1 : Nat) : Int) A))) = offs A.all Y := offs_upd (by simp)
    have sY : Same G0 (offs A.all Y) := k1.trans (offs_sub fun b hb => List.mem_cons_of_mem _ hb)
    refine ⟨_, rfl, q B bs _ (by rw [hlen] at hS3; rw [hlen]; exact hS3) (by rw [e3]; exact sY) (by rw [e3, offs_out hBA]; exact k2) (k3.mono fun u t _ z => by rw [e3]; exact z.same sY)⟩
end
end Vt


set_option Elab.async false
set_option linter.all false
set_option maxRecDepth 100000
set_option maxHeartbeats 4000000

namespace Vt
open PySem PySem.Spec PyProof.Rows L2
def spSurvey (K : PySem.W.Frag) : Sp := fun vs H Q _ => ∃ (v : V) (t : Ty) (lab : Nat → Option (List Str)), vs = [v] ∧ Tr K H v t ∧ Gt lab t ∧ ∀ (r : Addr) (H' : Hp), Same H H' → Q (.ref r) H'
def spCheck (K : PySem.W.Frag) : Sp := fun vs H Q _ => ∃ (v : V) (t : Ty) (lab : Nat → Option (List Str)), vs = [v] ∧ Tr K H v t ∧ Gt lab t ∧ ∀ (H' : Hp), Same H H' → Q .non H'
abbrev s_survey_if_tree : Stmt := topS 31
abbrev N_survey_if_tree : List Str := ["value", "survey", "level"]
theorem sc_survey_if_tree : FnScope N_survey_if_tree ["value"] (defScope s_survey_if_tree) := ⟨rfl, rfl, rfl, by decide +kernel, rfl, by decide +kernel, by decide +kernel⟩
abbrev s_survey_of : Stmt := topS 33
abbrev N_survey_of : List Str := ["tree", "survey"]
theorem sc_survey_of : FnScope N_survey_of ["tree"] (defScope s_survey_of) := ⟨rfl, rfl, rfl, by decide +kernel, rfl, by decide +kernel, by decide +kernel⟩
abbrev s_check_tree : Stmt := topS 34
abbrev N_check_tree : List Str := ["value"]
theorem sc_check_tree : FnScope N_check_tree ["value"] (defScope s_check_tree) := ⟨rfl, rfl, rfl, by decide +kernel, rfl, by decide +kernel, by decide +kernel⟩
section
variable {P : Program} {w : World} {K : PySem.W.Frag} {mg : Str → Option Value} {base : Heap} {C : Addr}
theorem ok_survey_if_tree (T : SvC K mg C) (S : Stands K mg "survey_if_tree" s_survey_if_tree ["value"]) (H_Survey___init__ : DefOkI P w K mg base CX0 1 C ["self"] (spSurInit K C)) (H_Survey_take : DefOkM P w K mg base CX0 6 C "take" ["self", "level"] (spTake K C)) :
    DefOk P w K mg base CX0 7 "survey_if_tree" ["value"] (spSurvey K) := by
  obtain ⟨f, fd, F, hm, hb⟩ := S
  obtain ⟨f_Survey___init__, fd_Survey___init__, G_Survey___init__, k_Survey___init__, b_Survey___init__⟩ := H_Survey___init__
  obtain ⟨f_Survey_take, fd_Survey_take, G_Survey_take, k_Survey_take, b_Survey_take⟩ := H_Survey_take
  refine ⟨f, fd, ?_, hm, F.kp, hb⟩
  have nd := sc_survey_if_tree.nd
  refine F.ok sc_survey_if_tree (fun vs H Q E h => ?_) (fun cdv A outer s0 H vs Q E hr h => ?_)
  · obtain ⟨v, t, lab, rfl, _⟩ := h
    rfl
  obtain ⟨v, t, lab, rfl, hT, hW, q⟩ := h
  refine ⟨_, (pss_cons (ps_set (i := 1) nd rfl (Or.inl rfl) (pe_make0 k_Survey___init__ G_Survey___init__ (hr.mono (by decide)) rfl T.mgC b_Survey___init__ .nil pass0))
      (pss_cons (ps_set (i := 2) nd rfl (Or.inl rfl) (pe_tup (pa_cons (pv 0) pa_nil)))
      (pss_cons (ps_while PassesOwn.never (pt_truth (pv 2) (by intro _; rfl)) (pss_one (ps_set (i := 2) nd rfl (Or.inl rfl) (pe_meth (pv 1) T.cl k_Survey_take G_Survey_take (hr.mono (by decide)) b_Survey_take .nil pass0 (pa_cons (pv 2) pa_nil)))))
      (pss_one (ps_ret (pe_ifExp (pt_cmpR op_notN (pv 2) pe_non (nomark _)) (pv 1) pe_non)))))), ?_⟩
  intro x dx hx hdx hne
  have S0 : Same H (upd (upd H dx (.own x)) x (.ins C dx [])) := (same_new hdx _).trans (same_new (by rw [upd_ne hne.symm]; exact hx) _)
  refine ⟨x, dx, rfl, upd_same, fun A H1 eo hfr hsv k1 => ⟨rfl, ?_⟩⟩
  refine gn ?_
  have nn : ∀ b o, H b = some o → b ∉ A.all := fun b o e z => by
    have e' := S0 _ _ e
    rcases List.mem_cons.mp z with z | z
    · rw [z, eo, hx] at e
      cases e
    · rw [hfr b z] at e'
      cases e'
  have sH1 : Same H H1 := fun b o e => k1 b o (fun z => by rw [z, hx] at e; cases e) (S0 _ _ e)
  refine ⟨_, rfl, sz (by simp), fun a ha => ?_⟩
  refine gn ?_
  have Sa := same_new ha (.tup [v])
  have haA := (hsv lab).nin ha
  have hS := (hsv lab).same Sa
  have ta := @upd_same H1 a (.tup [v])
  have sH2 : Same H (offs A.all (upd H1 a (.tup [v]))) := fun b o e => by
    rw [offs_out (nn b o e)]
    exact Sa _ _ (sH1 _ _ e)
  generalize upd H1 a (.tup [v]) = H2 at *
  dsimp only
  refine while_by (fun σ X => ∃ (a : Addr) (us : List V) (ts : List Ty) (n k c : Nat), σ = [some v, some (.ref x), some (.ref a)] ∧ Svy K C lab A [] n k c X ∧ c + 3 * Ty.sizes ts ≤ 3 * t.size ∧ n + Ty.sizes ts = t.size ∧ k + Ty.deeps ts = t.deep ∧ Same H (offs A.all X) ∧ Sq K (offs A.all X) a us ∧ Al (fun u t => Tr K (offs A.all X) u t) us ts ∧ (∀ u ∈ ts, Gd lab u))
    (fun σ X => match X A.o with | some (.ins _ _ [_, (_, .int k), _, _, _]) => 100 - k.toNat | _ => 0) ?_ ?_ ?_
  · exact ⟨a, [v], [t], 0, 0, 0, rfl, hS, by simp [Ty.sizes], by simp [Ty.sizes], by simp [Ty.deeps], sH2, .inr (SqT.of (by rw [offs_out haA]; exact ta)), al1 (hT.same sH2), fun u hu => by rw [List.mem_singleton.mp hu]; exact hW.gd⟩
  · rintro σ X ⟨a, us, ts, n, k, c, rfl, hSX, e0, e1, e2, sX, hq, hal, hg⟩
    refine ⟨_, rfl, !us.isEmpty, (hq.same offs_same).elim (fun z => .inl ⟨_, z, rfl⟩) (fun z => .inr (.inl ⟨_, z, rfl⟩)), ?_⟩
    have hszz := hW.sz
    have hdpp := hW.dp
    cases us with
    | nil =>
      refine ifF rfl ?_
      refine ⟨_, rfl, rfl, _, rfl, ifT rfl ?_⟩
      exact ⟨_, rfl, q x X (sX.trans offs_same)⟩
    | cons u0 ur =>
      refine ifT rfl ?_
      have hts : ts ≠ [] := fun z => by
        subst z
        cases hal.1
      have hsum := ysizes_next ts
      have hdeep := ydeeps_next ts hts
      rw [← eo]
      refine ⟨_, rfl, A.o, A.dx, _, rfl, hSX.ob, fs_take, _, rfl, A, lab, n, k, c, a, u0 :: ur, ts, rfl, hSX, by omega, hq, hal, hg, by omega, by omega, hts, fun B vs X' h1 h2 h3 h4 => ?_⟩
      refine gn ?_
      refine ⟨⟨B, vs, ts.flatMap Ty.kids, _, _, _, ?_, h1, by omega, by omega, by omega, sX.trans h2, .inl (SqL.of h3), h4, ?_⟩, ?_⟩
      · rw [eo]; rfl
      · intro k hk
        obtain ⟨u, hu, hk⟩ := List.mem_flatMap.mp hk
        cases u
        exact (hg _ hu).kid hk
      · rw [h1.ob, hSX.ob]
        show 100 - ((k + 1 : Nat) : Int).toNat < 100 - ((k : Nat) : Int).toNat
        omega
  · intro σ X Q1 Q2 m z
    obtain ⟨x, e, k, e1, z⟩ := z
    exact ⟨x, e, k, e1, m _ _ z⟩
theorem ok_survey_of (S : Stands K mg "survey_of" s_survey_of ["tree"]) (H_survey_if_tree : DefOk P w K mg base CX0 7 "survey_if_tree" ["value"] (spSurvey K)) : DefOk P w K mg base CX0 8 "survey_of" ["tree"] (spSurvey K) := by
  obtain ⟨f, fd, F, hm, hb⟩ := S
  obtain ⟨f_survey_if_tree, fd_survey_if_tree, G_survey_if_tree, m_survey_if_tree, k_survey_if_tree, b_survey_if_tree⟩ := H_survey_if_tree
  refine ⟨f, fd, ?_, hm, F.kp, hb⟩
  have nd := sc_survey_of.nd
  refine F.ok sc_survey_of (fun vs H Q E h => ?_) (fun cdv A outer s0 H vs Q E hr h => ?_)
  · obtain ⟨v, t, lab, rfl, _⟩ := h
    rfl
  obtain ⟨v, t, lab, rfl, hT, hW, q⟩ := h
  refine ⟨_, (pss_cons (ps_set (i := 1) nd rfl (Or.inl rfl) (pe_call G_survey_if_tree (hr.mono (by decide)) rfl m_survey_if_tree k_survey_if_tree b_survey_if_tree .nil pass0 (pa_cons (pv 0) pa_nil)))
      (C8.pss_cut (ps_if (pt_cmpR op_isN (pv 1) pe_non (nomark _)) (pss_one (ps_never)) pss_nil)
      (pss_one (ps_ret (pv 1))))), ?_⟩
  refine ⟨_, rfl, v, t, lab, rfl, hT, hW, fun r H' S' => ?_⟩
  refine gn ?_
  refine ⟨fun σ' H2 => σ' = [some v, some (.ref r)] ∧ H2 = H', ?_, ?_⟩
  · refine ⟨_, rfl, rfl, _, rfl, ifF (decide_eq_false (fun z => by cases z)) ?_⟩
    exact ⟨rfl, rfl⟩
  · rintro σ' H2 ⟨rfl, rfl⟩
    exact ⟨_, rfl, q r H2 S'⟩
theorem ok_check_tree (S : Stands K mg "check_tree" s_check_tree ["value"]) (H_survey_of : DefOk P w K mg base CX0 8 "survey_of" ["tree"] (spSurvey K)) : DefOk P w K mg base CX0 9 "check_tree" ["value"] (spCheck K) := by
  obtain ⟨f, fd, F, hm, hb⟩ := S
  obtain ⟨f_survey_of, fd_survey_of, G_survey_of, m_survey_of, k_survey_of, b_survey_of⟩ := H_survey_of
  refine ⟨f, fd, ?_, hm, F.kp, hb⟩
  have nd := sc_check_tree.nd
  refine F.ok sc_check_tree (fun vs H Q E h => ?_) (fun cdv A outer s0 H vs Q E hr h => ?_)
  · obtain ⟨v, t, lab, rfl, _⟩ := h
    rfl
  obtain ⟨v, t, lab, rfl, hT, hW, q⟩ := h
  refine ⟨_, (pss_one (ps_expr (pe_call G_survey_of (hr.mono (by decide)) rfl m_survey_of k_survey_of b_survey_of .nil pass0 (pa_cons (pv 0) pa_nil)))), ?_⟩
  exact ⟨_, rfl, v, t, lab, rfl, hT, hW, fun r H' S' => q H' S'⟩
end
end Vt


set_option Elab.async false
set_option linter.all false
set_option maxRecDepth 100000
set_option maxHeartbeats 4000000

namespace Vt
open PySem PySem.Spec PyProof.Rows L2
/-! ### numbers of marks, in a dict -/
def numF : List Nat → Nat → List (Key × V)
  | [], _ => []
  | n :: r, k => (.inl (n : Int), .int (k : Nat)) :: numF r (k + 1)
abbrev numK (s : List Nat) : List (Key × V) := numF s 0
theorem numF_len : ∀ (s : List Nat) (k : Nat), (numF s k).length = s.length
  | [], _ => rfl
  | n :: r, k => by simp [numF, numF_len r]
theorem numF_val (m : Nat) : ∀ (s : List Nat) (k : Nat), valV (numF s k) (.inl (m : Int)) = if m ∈ s then some (.int ((k + s.idxOf m : Nat) : Int)) else none
  | [], _ => rfl
  | n :: r, k => by
    by_cases e : n = m
    · subst e
      simp only [numF]
      rw [valV_pos rfl, if_pos (List.mem_cons_self ..), List.idxOf_cons_self]
      rfl
    · simp only [numF]
      rw [valV_neg (fun z => e (by injection z with z; omega)), numF_val m r (k + 1)]
      have e2 : (n :: r).idxOf m = r.idxOf m + 1 := by
        rw [List.idxOf_cons]
        have : (n == m) = false := by simpa using e
        rw [this]
        rfl
      by_cases hm : m ∈ r
      · rw [if_pos hm, if_pos (List.mem_cons_of_mem _ hm), e2]
        congr 3
        omega
      · rw [if_neg hm, if_neg fun z => (List.mem_cons.mp z).elim (fun z => e z.symm) hm]
theorem numF_snoc (m : Nat) : ∀ (s : List Nat) (k : Nat), numF (s ++ [m]) k = numF s k ++ [(.inl (m : Int), .int ((k + s.length : Nat) : Int))]
  | [], k => rfl
  | n :: r, k => by
    simp only [List.cons_append, numF, numF_snoc m r (k + 1), List.length_cons]
    rw [show k + 1 + r.length = k + (r.length + 1) by omega]
theorem Keep.offD {d : Addr} {H H' : Hp} (k : Keep d H H') : Same (Vt.off d H) (Vt.off d H') := fun b o e => by
  by_cases z : b = d
  · rw [z, off_at] at e
    cases e
  · rw [off_ne z] at e ⊢
    exact k b o z e
theorem off_mono {d : Addr} {H H' : Hp} (k : Same H H') : Same (off d H) (off d H') := Keep.offD (d := d) fun b o _ e => k b o e
theorem nw_keepD {d : Addr} {H A B : Hp} (k : Keep d A B) (hd : H d ≠ none) : Same (nw H A) (nw H B) := fun b o e => by
  obtain ⟨e1, e2⟩ := nw_get e
  rw [nw_of e1]
  exact k b o (fun z => hd (by rw [← z]; exact e1)) e2
theorem growD {d D : Addr} {H G X X' : Hp} {L : HO} {us : List V} (g1 : Same G X) (g2 : G D = none) (g3 : Keep d H G) (hHd : H d ≠ none) (gd : G d ≠ none) (eD : X D = some (.lst us)) (k : Keep d X X') :
    Same (off D X') (upd X' D L) ∧ off D X' D = none ∧ Keep d H (off D X') ∧ X' D = some (.lst us) ∧ Same (nw H G) (nw H (off D X')) ∧ Same (nw X X') (nw H (off D X')) ∧ D ≠ d := by
  have nd : D ≠ d := fun z => gd (by rw [← z]; exact g2)
  have kg : Keep d G (off D X') := Keep.off g1 k g2
  have xd : X d ≠ none := fun z => by
    cases e : G d with
    | none => exact gd e
    | some o => have := g1 _ _ e; rw [z] at this; cases this
  refine ⟨off_same.wr off_at, off_at, g3.trans kg, k _ _ nd eD, nw_keepD kg hHd, fun b o e => ?_, nd⟩
  obtain ⟨e1, e2⟩ := nw_get e
  have nb : b ≠ d := fun z => xd (by rw [← z]; exact e1)
  have h0 : H b = none := keep_none (g3.same g1) nb e1
  rw [nw_of h0, off_ne (fun z => by rw [z, eD] at e1; cases e1)]
  exact e2
theorem setd_num {d : Addr} {s : List Nat} {m : Nat} {H : Hp} {Q : VK} (hd : H d = some (.dK (numK s))) (hl : s.length ≤ 900000) (q : ∀ H', (∀ b, b ≠ d → H' b = H b) → H' d = some (.dK (numK (addM m s))) → Q (.int (s.idxOf m : Nat)) H') :
    ∃ (kvs : List (Key × V)) (k : Key), H d = some (.dK kvs) ∧ V.int (m : Nat) = kV k ∧ kvs.length < sizeLine ∧ (∀ v, valV kvs k = some v → Q v H) ∧ (valV kvs k = none → Q (.int ((numK s).length : Nat)) (upd H d (.dK (putK kvs k (.int ((numK s).length : Nat)))))) := by
  refine ⟨numK s, .inl (m : Int), hd, rfl, sm9 (by rw [numF_len]; omega), fun v e => ?_, fun e => ?_⟩
  · rw [numF_val] at e
    split at e
    · rename_i h
      injection e with e
      rw [← e, Nat.zero_add]
      refine q H (fun _ _ => rfl) ?_
      unfold addM
      rw [if_pos h]
      exact hd
    · cases e
  · have hm : m ∉ s := fun z => by
      rw [numF_val, if_pos z] at e
      cases e
    rw [putK_new _ e, numF_len]
    have e2 : s.idxOf m = s.length := List.idxOf_eq_length hm
    have := q (upd H d (.dK (numK s ++ [(.inl (m : Int), .int ((s.length : Nat) : Int))]))) (fun b n => upd_ne n) (by
      rw [upd_same]
      unfold addM
      rw [if_neg hm]
      show _ = some (HO.dK (numF (s ++ [m]) 0))
      rw [numF_snoc, Nat.zero_add])
    rw [e2] at this
    exact this
mutual
theorem num_len : ∀ (t : Ty) (s : List Nat), (t.num s).2.length ≤ s.length + t.size
  | .node h ks, s => by
    have := nums_len ks s
    simp only [Ty.num, Ty.size]
    have e : ∀ s : List Nat, (h.seen s).length ≤ s.length + 1 := fun s => by
      unfold Hy.seen addM
      split
      · split <;> simp
      · omega
    have := e (Ty.nums ks s).2
    omega
theorem nums_len : ∀ (ks : List Ty) (s : List Nat), (Ty.nums ks s).2.length ≤ s.length + Ty.sizes ks
  | [], s => by simp [Ty.nums, Ty.sizes]
  | t :: r, s => by
    have h1 := num_len t s
    have h2 := nums_len r (t.num s).2
    simp only [Ty.nums, Ty.sizes]
    omega
end
theorem nums_snoc14 (t : Ty) : ∀ (ks : List Ty) (s : List Nat), Ty.nums (ks ++ [t]) s = ((Ty.nums ks s).1 ++ [(t.num (Ty.nums ks s).2).1], (t.num (Ty.nums ks s).2).2)
  | [], s => rfl
  | u :: r, s => by simp only [List.cons_append, Ty.nums, nums_snoc14 t r]
theorem nums_size : ∀ (ks : List Ty) (s : List Nat), (Ty.nums ks s).1.length = ks.length
  | [], _ => rfl
  | t :: r, s => by simp only [Ty.nums, List.length_cons, nums_size r]
theorem ysize_kid {ks : List Ty} {t : Ty} (h : t ∈ ks) : t.size ≤ Ty.sizes ks := by
  induction ks with
  | nil => cases h
  | cons u r ih =>
    simp only [Ty.sizes]
    rcases List.mem_cons.mp h with rfl | h
    · omega
    · have := ih h
      omega
theorem ydeep_kid {ks : List Ty} {t : Ty} (h : t ∈ ks) : t.deep ≤ Ty.deeps ks := by
  induction ks with
  | nil => cases h
  | cons u r ih =>
    simp only [Ty.deeps]
    rcases List.mem_cons.mp h with rfl | h
    · omega
    · have := ih h
      omega
theorem take_snoc {α : Type} {ks : List α} {i : Nat} {t : α} (h : ks[i]? = some t) : ks.take (i + 1) = ks.take i ++ [t] := by
  rw [List.take_add_one, h]
  rfl
theorem ysizes_take : ∀ (ks : List Ty) (i : Nat), Ty.sizes (ks.take i) ≤ Ty.sizes ks
  | [], i => by simp
  | t :: r, 0 => by simp [Ty.sizes]
  | t :: r, i + 1 => by
    have := ysizes_take r i
    simp only [List.take_succ_cons, Ty.sizes]
    omega
theorem w_tupY (h : Hy) : decide (V.str h.word = V.str "tuple") = (match h with | .tup => true | _ => false) := by cases h <;> kernel_rfl
def Hy.plain : Hy → Bool
  | .int => true
  | .bool => true
  | .fn => true
  | _ => false
theorem plain_num {h : Hy} (p : h.plain = true) (s : List Nat) : h.num s = h ∧ h.seen s = s := by cases h <;> first | exact ⟨rfl, rfl⟩ | cases p
theorem Tr.plain {K : PySem.W.Frag} {H : Hp} {v : V} {h : Hy} {ks : List Ty} (t : Tr K H v (.node h ks)) (p : h.plain = true) : ∃ (a : Addr) (vs : List V), v = .ref a ∧ SqT K H a (.str h.word :: vs) ∧ Al (fun u t => Tr K H u t) vs ks ∧ vs.length ≤ 2 := by
  cases t with
  | int h1 => exact ⟨_, [], rfl, h1, al0, by simp⟩
  | bool h1 => exact ⟨_, [], rfl, h1, al0, by simp⟩
  | fn h1 h2 h3 => exact ⟨_, [_, _], rfl, h1, al2 h2 h3, by simp⟩
  | _ => cases p
theorem plain_tr {K : PySem.W.Frag} {H : Hp} {a : Addr} {h : Hy} {vs : List V} {ks : List Ty} (p : h.plain = true) (o : okHy h ks.length) (s : SqT K H a (.str h.word :: vs)) (al : Al (fun u t => Tr K H u t) vs ks) : Tr K H (.ref a) (.node h ks) := by
  have hl := al.1
  cases h with
  | int =>
    obtain rfl : ks = [] := List.eq_nil_of_length_eq_zero o
    obtain rfl : vs = [] := List.eq_nil_of_length_eq_zero hl
    exact .int s
  | bool =>
    obtain rfl : ks = [] := List.eq_nil_of_length_eq_zero o
    obtain rfl : vs = [] := List.eq_nil_of_length_eq_zero hl
    exact .bool s
  | fn =>
    match ks, vs, o, hl with
    | [t1, t2], [u1, u2], _, _ => exact .fn s (al.2 0 _ _ rfl rfl) (al.2 1 _ _ rfl rfl)
  | _ => cases p
/-- the top of a new tree with a list: the list is an object that can be changed -/
def TopL (N : Hp) (r : V) (t : Ty) : Prop := (t.hd = .tup ∨ ∃ ls m, t.hd = .rcd ls m) → ∃ (a l : Addr) (us rest : List V), r = .ref a ∧ N a = some (.tup (.str t.hd.word :: .ref l :: rest)) ∧ N l = some (.lst us)
theorem TopL.same {N N' : Hp} {r : V} {t : Ty} (h : TopL N r t) (s : Same N N') : TopL N' r t := fun c => by
  obtain ⟨a, l, us, rest, e, h1, h2⟩ := h c
  exact ⟨a, l, us, rest, e, s _ _ h1, s _ _ h2⟩
def spNum (K : PySem.W.Frag) (n : Nat) : Sp := fun vs H Q _ => ∃ (v : V) (t : Ty) (d : Addr) (s : List Nat), vs = [v, .ref d] ∧ H d = some (.dK (numK s)) ∧ Tr K (off d H) v t ∧ Wy t ∧ t.size ≤ 1000 ∧ s.length + t.size ≤ 500000 ∧ t.deep ≤ n ∧
  ∀ (r : V) (H' : Hp), Keep d H H' → H' d = some (.dK (numK (t.num s).2)) → Tr K (nw H H') r (t.num s).1 → TopL (nw H H') r (t.num s).1 → Q r H'
abbrev s_numbered_anew : Stmt := topS 35
abbrev N_numbered_anew : List Str := ["tree", "numbers", "fields", "item", "name", "inner", "held"]
theorem sc_numbered_anew : FnScope N_numbered_anew ["tree", "numbers"] (defScope s_numbered_anew) := ⟨rfl, rfl, rfl, by decide +kernel, rfl, by decide +kernel, by decide +kernel⟩
section
variable {P : Program} {w : World} {K : PySem.W.Frag} {mg : Str → Option Value} {base : Heap}
theorem ok_numbered0 (S : Stands K mg "numbered_anew" s_numbered_anew ["tree", "numbers"]) : DefOk P w K mg base CX0 1 "numbered_anew" ["tree", "numbers"] (spNum K 0) := by
  obtain ⟨f, fd, F, hm, hb⟩ := S
  refine ⟨f, fd, ?_, hm, F.kp, hb⟩
  have nd := sc_numbered_anew.nd
  refine F.ok sc_numbered_anew (fun vs H Q E h => ?_) (fun cdv A outer s0 H vs Q E hr h => ?_)
  · obtain ⟨v, t, d, s, rfl, _⟩ := h
    rfl
  obtain ⟨v, t, d, s, rfl, hd, hT, hW, h1, h2, h3, q⟩ := h
  cases t
  simp only [Ty.deep] at h3
  omega
theorem ok_numbered {n : Nat} (S : Stands K mg "numbered_anew" s_numbered_anew ["tree", "numbers"]) (Z : Blt mg) (H_numbered_anew : DefOk P w K mg base CX0 (n + 1) "numbered_anew" ["tree", "numbers"] (spNum K n)) : DefOk P w K mg base CX0 (n + 2) "numbered_anew" ["tree", "numbers"] (spNum K (n + 1)) := by
  have z_len := Z.len
  have z_tuple := Z.tuple
  have z_isinstance := Z.isinstance
  obtain ⟨f, fd, F, hm, hb⟩ := S
  obtain ⟨f_numbered_anew, fd_numbered_anew, G_numbered_anew, m_numbered_anew, k_numbered_anew, b_numbered_anew⟩ := H_numbered_anew
  refine ⟨f, fd, ?_, hm, F.kp, hb⟩
  have nd := sc_numbered_anew.nd
  refine F.ok sc_numbered_anew (fun vs H Q E h => ?_) (fun cdv A outer s0 H vs Q E hr h => ?_)
  · obtain ⟨v, t, d, s, rfl, _⟩ := h
    rfl
  obtain ⟨v, t, d, s, rfl, hd, hT, hW, h1, h2, h3, q⟩ := h
  refine ⟨_, (pss_cons (ps_if (pt_cmpR op_eq (pe_ix ix_tup (pv 0) pe_int (fun _ _ => rfl)) pe_str (nomark _)) (pss_one (ps_ret (pe_tup (pa_cons pe_str (pa_cons (pe_dsetd (pv 1) (pe_ix ix_tup (pv 0) pe_int (fun _ _ => rfl)) (pe_callB call_lenD (by rfl) z_len (by decide +kernel) (pa_cons (pv 1) pa_nil)) ⟨rfl, rfl, rfl, rfl⟩) pa_nil))))) pss_nil)
      (pss_cons (ps_if (pt_cmpR op_eq (pe_ix ix_tup (pv 0) pe_int (fun _ _ => rfl)) pe_str (nomark _)) (pss_one (ps_ret (pe_tup (pa_cons pe_str (pa_cons (pe_lc (own := [("item", 3)]) (g := gName 3) (tt := tYes) rfl nd (pi_list (pe_ix ix_tup (pv 0) pe_int (fun _ _ => rfl))) (blkOk_by (N := N_numbered_anew) (sc := defScope s_numbered_anew) (by decide +kernel)) (fun _ _ _ _ _ => (pg_name (i := 3) nd rfl (Or.inl rfl))) (fun _ _ _ _ _ => pts_nil) (fun _ _ _ _ _ => (pe_call G_numbered_anew (hr.mono (by omega)) rfl m_numbered_anew k_numbered_anew b_numbered_anew .nil pass0 (pa_cons (pv 3) (pa_cons (pv 1) pa_nil))))) pa_nil))))) pss_nil)
      (pss_cons (ps_if (pt_cmpR op_eq (pe_ix ix_tup (pv 0) pe_int (fun _ _ => rfl)) pe_str (nomark _)) (pss_cons (ps_setLc (i := 2) (own := [("name", 4), ("inner", 5)]) (g := gTup K 2 (gCons (gName 4) (gCons (gName 5) gNil))) (tt := tYes) rfl nd rfl rfl (sw_true rfl rfl rfl (by decide +kernel)) (pi_list (pe_ix ix_tup (pv 0) pe_int (fun _ _ => rfl))) (blkOk_by (N := N_numbered_anew) (sc := defScope s_numbered_anew) (by decide +kernel)) (fun _ _ _ _ _ => (pg_tup rfl (pgs_cons (pg_name (i := 4) nd rfl (Or.inl rfl)) (pgs_cons (pg_name (i := 5) nd rfl (Or.inl rfl)) pgs_nil)))) (fun _ _ _ _ _ => pts_nil) (fun _ _ _ _ _ => (pe_tup (pa_cons (pv 4) (pa_cons (pe_call G_numbered_anew (hr.mono (by omega)) rfl m_numbered_anew k_numbered_anew b_numbered_anew .nil pass0 (pa_cons (pv 5) (pa_cons (pv 1) pa_nil))) pa_nil)))))
      (pss_one (ps_ret (pe_tup (pa_cons pe_str (pa_cons (pv 2) (pa_cons (pe_ifExp (pt_cmpR op_isN (pe_ix ix_tup (pv 0) pe_int (fun _ _ => rfl)) pe_non (nomark _)) pe_non (pe_dsetd (pv 1) (pe_ix ix_tup (pv 0) pe_int (fun _ _ => rfl)) (pe_callB call_lenD (by rfl) z_len (by decide +kernel) (pa_cons (pv 1) pa_nil)) ⟨rfl, rfl, rfl, rfl⟩)) pa_nil))))))) pss_nil)
      (pss_one (ps_ret (pe_callTy call_tuple_of (by rfl) z_tuple (by decide +kernel) (pa_cons (pe_lc (own := [("held", 6)]) (g := gName 6) (tt := tYes) rfl nd (pi_tup (pv 0)) (blkOk_by (N := N_numbered_anew) (sc := defScope s_numbered_anew) (by decide +kernel)) (fun _ _ _ _ _ => (pg_name (i := 6) nd rfl (Or.inl rfl))) (fun _ _ _ _ _ => pts_nil) (fun _ _ _ _ _ => (pe_ifExp (pt_val (pe_callB (r := rIsi K) call_isi (by rfl) z_isinstance (by decide +kernel) (pa_cons (pv 6) (pa_cons (pe_bltn (v := .ty "tuple") (by rfl) z_tuple (by decide +kernel) rfl) pa_nil)))) (pe_call G_numbered_anew (hr.mono (by omega)) rfl m_numbered_anew k_numbered_anew b_numbered_anew .nil pass0 (pa_cons (pv 6) (pa_cons (pv 1) pa_nil))) (pv 6)))) pa_nil))))))), ?_⟩
  have hdne : H d ≠ none := by rw [hd]; simp
  have isd : IsD H d := .inl ⟨_, .inl hd⟩
  cases t with
  | node h ks =>
  simp only [Ty.size] at h1 h2
  simp only [Ty.deep] at h3
  by_cases hp : h.plain = true
  · obtain ⟨a, vs, rfl, hx0, hal, hv2⟩ := hT.plain hp
    have hx := off_same.tupS hx0
    have hlen := hal.1
    refine ⟨_, rfl, a, _, _, _, rfl, rfl, hx, at0, rfl, _, rfl, ifF (by rw [w_var]; cases h <;> first | rfl | cases hp) ?_⟩
    refine ⟨_, rfl, a, _, _, _, rfl, rfl, hx, at0, rfl, _, rfl, ifF (by rw [w_tupY]; cases h <;> first | rfl | cases hp) ?_⟩
    refine ⟨_, rfl, a, _, _, _, rfl, rfl, hx, at0, rfl, _, rfl, ifF (by rw [w_rec]; cases h <;> first | rfl | cases hp) ?_⟩
    refine ⟨_, rfl, a, rfl, ⟨_, hx⟩, fun D hD => ?_⟩
    have hDd : D ≠ d := fun z => hdne (by rw [← z]; exact hD)
    refine lc_tup (K := K) (a := a) (xs := .str h.word :: vs) (fun i X => ∃ (G : Hp) (us : List V), Same G X ∧ G D = none ∧ Keep d H G ∧ G d = some (.dK (numK (Ty.nums (ks.take (i - 1)) s).2)) ∧ X D = some (.lst (if i = 0 then [] else .str h.word :: us)) ∧
        Al (fun u t => Tr K (nw H G) u t) us (Ty.nums (ks.take (i - 1)) s).1)
      ⟨H, [], same_new hD _, hD, Keep.refl _ _, hd, upd_same, al0⟩ (fun i X hi ⟨G, _, g1, _, g3, _⟩ => (g3.offD.trans (off_same.trans g1)).tupS hx0) ?_ ?_
    · rintro i x X hx1 ⟨G, us, g1, g2, g3, g4, g5, g6⟩
      have kX := g3.same g1
      have oX : Same (off d H) (off d X) := kX.offD
      refine gn ?_
      refine ⟨rfl, ?_⟩
      refine yes_of (ifTt rfl ?_)
      cases i with
      | zero =>
        obtain rfl : V.str h.word = x := by injection hx1
        refine ⟨_, rfl, _, .ty "tuple", _, _, false, rfl, .ty "tuple", .base (.str _), kit_ty (by decide +kernel), _, rfl, ?_⟩
        refine ifF rfl ?_
        refine ⟨_, rfl, _, g5, sz (by simp), G, [], g1.wr g2, g2, g3, g4, ?_, al0⟩
        rw [upd_same]
        rfl
      | succ j =>
        have hvj : vs[j]? = some x := hx1
        have hj := (List.getElem?_eq_some_iff.mp hvj).1
        have htj : ks[j]? = some (ks[j]'(by omega)) := List.getElem?_eq_getElem (by omega)
        have htm := hal.2 j x _ hvj htj
        have hmem := List.getElem_mem (by omega : j < ks.length)
        generalize ks[j]'(by omega) = t at *
        have ek := take_snoc htj
        have en := nums_snoc14 t (ks.take j) s
        rw [← ek] at en
        have hsl := nums_len (ks.take j) s
        have hst := ysizes_take ks j
        have hst2 := ysizes_take ks (j + 1)
        rw [ek, ysizes_app] at hst2
        simp only [Ty.sizes] at hst2
        have hsk := ysize_kid hmem
        have hdk := ydeep_kid hmem
        obtain ⟨a', xs', rfl, hx'⟩ := htm.tuple
        have htX := htm.same oX
        refine ⟨_, rfl, _, .ty "tuple", _, _, true, rfl, .ty "tuple", tyT (off_same.tupS (oX.tupS hx')), kit_ty (by decide +kernel), _, rfl, ?_⟩
        refine ifT rfl ?_
        refine ⟨_, rfl, _, rfl, .ref a', t, d, _, rfl, g1 _ _ g4, htX, hW.kid hmem, by omega, by simp only [Nat.add_sub_cancel]; omega, by omega, fun r X' kx hx2 tr _ => ?_⟩
        obtain ⟨b1, b2, b3, b4, b5, b6, b7⟩ := growD (L := .lst (.str h.word :: us ++ [r])) g1 g2 g3 hdne (by rw [g4]; simp) g5 kx
        have hul := g6.1
        rw [nums_size, List.length_take] at hul
        refine ⟨.str h.word :: us, b4, sz (by simp only [List.length_cons]; omega), off D X', us ++ [r], b1, b2, b3, ?_, ?_, ?_⟩
        · rw [off_ne b7.symm, hx2]
          show some (HO.dK (numK _)) = some (HO.dK (numK (Ty.nums (ks.take (j + 1)) s).2))
          rw [en]
          rfl
        · rw [upd_same]
          rfl
        · show Al _ _ (Ty.nums (ks.take (j + 1)) s).1
          rw [en]
          exact (g6.mono fun u t _ z => z.same b5).snoc (tr.same b6)
    · rintro X ⟨G, us, g1, g2, g3, g4, g5, g6⟩
      have e1 : (ks.take ((V.str h.word :: vs).length - 1)) = ks := List.take_of_length_le (by simp only [List.length_cons]; omega)
      rw [e1] at g4 g6
      rw [if_neg (by simp)] at g5
      have hDH : H D = none := hD
      refine ⟨D, _, rfl, .inl ⟨SqL.of g5, fun p hp2 => ?_⟩⟩
      have Sp := same_new hp2 (.tup (.str h.word :: us))
      have hpH : H p = none := keep_none (g3.same g1) (fun z => by rw [z, g1 _ _ g4] at hp2; cases hp2) hp2
      obtain ⟨n1, n2⟩ := plain_num hp (Ty.nums ks s).2
      refine q _ _ ((g3.same g1).same Sp) ?_ ?_ ?_
      · rw [Sp _ _ (g1 _ _ g4)]
        show _ = some (HO.dK (numK (h.seen (Ty.nums ks s).2)))
        rw [n2]
      · show Tr K _ _ (.node (h.num (Ty.nums ks s).2) (Ty.nums ks s).1)
        rw [n1]
        exact plain_tr hp (by rw [nums_size]; exact hW.hd) (SqT.of (nw_at hpH)) (g6.mono fun u t _ z => z.same ((nw_same g1).trans (nw_same Sp)))
      · intro c
        exfalso
        simp only [Ty.num, Ty.hd, n1] at c
        rcases c with c | ⟨ls, m, c⟩ <;> rw [c] at hp <;> cases hp
  · cases hT with
    | @var a n h1x =>
      have hx := off_same.tupS h1x
      refine ⟨_, rfl, a, _, _, _, rfl, rfl, hx, at0, rfl, _, rfl, ifT (w_var (.var n)) ?_⟩
      refine ⟨_, rfl, d, rfl, isd, _, rfl, a, _, _, _, rfl, rfl, hx, rfl, _, rfl, d, _, rfl, hd, ?_⟩
      refine setd_num hd (by omega) fun H' hE hN => ⟨sz (by simp), fun p hp => ?_⟩
      have hpd : p ≠ d := fun z => by rw [z, hN] at hp; cases hp
      refine q _ _ (fun b o hb e => ?_) ?_ (.var (SqT.of (nw_at (by rw [← hE p hpd]; exact hp)))) (fun c => by rcases c with c | ⟨_, _, c⟩ <;> cases c)
      · rw [upd_ne (fun z => by rw [z, ← hE p hpd, hp] at e; cases e), hE b hb]
        exact e
      · rw [upd_ne hpd.symm]
        exact hN
    | @tup a l vs ts h2x h3x h4x h5x =>
      have hx := off_same.tupS h2x
      refine ⟨_, rfl, a, _, _, _, rfl, rfl, hx, at0, rfl, _, rfl, ifF (w_var .tup) ?_⟩
      refine ⟨_, rfl, a, _, _, _, rfl, rfl, hx, at0, rfl, _, rfl, ifT (w_tupY .tup) ?_⟩
      refine ⟨_, rfl, a, _, _, _, rfl, rfl, hx, rfl, l, rfl, ⟨_, off_same.seq h3x⟩, fun D hD => ?_⟩
      have hDd : D ≠ d := fun z => hdne (by rw [← z]; exact hD)
      refine lc_list (K := K) (a := l) (xs := vs) (fun i X => ∃ (G : Hp) (us : List V), Same G X ∧ G D = none ∧ Keep d H G ∧ G d = some (.dK (numK (Ty.nums (ks.take i) s).2)) ∧ X D = some (.lst us) ∧ Al (fun u t => Tr K (nw H G) u t) us (Ty.nums (ks.take i) s).1)
        ⟨H, [], same_new hD _, hD, Keep.refl _ _, hd, upd_same, al0⟩ (fun i X hi ⟨G, _, g1, _, g3, _⟩ => (g3.offD.trans (off_same.trans g1)).seq h3x) ?_ ?_
      · rintro j x X hvj ⟨G, us, g1, g2, g3, g4, g5, g6⟩
        have kX := g3.same g1
        have oX : Same (off d H) (off d X) := kX.offD
        refine gn ?_
        refine ⟨rfl, ?_⟩
        refine yes_of (ifTt rfl ?_)
        have hj := (List.getElem?_eq_some_iff.mp hvj).1
        have htj : ks[j]? = some (ks[j]'(by omega)) := List.getElem?_eq_getElem (by omega)
        have htm := h5x j x _ hvj htj
        have hmem := List.getElem_mem (by omega : j < ks.length)
        generalize ks[j]'(by omega) = t at *
        have ek := take_snoc htj
        have en := nums_snoc14 t (ks.take j) s
        rw [← ek] at en
        have hsl := nums_len (ks.take j) s
        have hst2 := ysizes_take ks (j + 1)
        rw [ek, ysizes_app] at hst2
        simp only [Ty.sizes] at hst2
        have hsk := ysize_kid hmem
        have hdk := ydeep_kid hmem
        have htX := htm.same oX
        refine ⟨_, rfl, _, rfl, x, t, d, _, rfl, g1 _ _ g4, htX, hW.kid hmem, by omega, by omega, by omega, fun r X' kx hx2 tr _ => ?_⟩
        obtain ⟨b1, b2, b3, b4, b5, b6, b7⟩ := growD (L := .lst (us ++ [r])) g1 g2 g3 hdne (by rw [g4]; simp) g5 kx
        have hul := g6.1
        rw [nums_size, List.length_take] at hul
        have hsz6 := ylen_sizes ks
        refine ⟨us, b4, sz (by omega), off D X', us ++ [r], b1, b2, b3, ?_, upd_same, ?_⟩
        · rw [off_ne b7.symm, hx2, en]
        · rw [en]
          exact (g6.mono fun u t _ z => z.same b5).snoc (tr.same b6)
      · rintro X ⟨G, us, g1, g2, g3, g4, g5, g6⟩
        rw [h4x, List.take_length] at g4 g6
        refine ⟨sz (by simp), fun p hp2 => ?_⟩
        have Sp := same_new hp2 (.tup [V.str "tuple", .ref D])
        have hpH : H p = none := keep_none (g3.same g1) (fun z => by rw [z, g1 _ _ g4] at hp2; cases hp2) hp2
        have b7 := nw_same (H := H) g1
        have b8 := nw_same (H := H) Sp
        exact q _ _ ((g3.same g1).same Sp) (Sp _ _ (g1 _ _ g4)) (.tup (SqT.of (nw_at hpH)) (SqL.of (b8 _ _ ((nw_of hD).trans g5))) g6.1 fun i u t e1 e2 => ((g6.2 i u t e1 e2).same b7).same b8) fun _ => ⟨p, D, us, [], rfl, nw_at hpH, b8 _ _ ((nw_of hD).trans g5)⟩
    | @rcd a l bs vs ls ts m h2x h3x h4x h5x h6x h7x h8x =>
      have hx := off_same.tupS h2x
      refine ⟨_, rfl, a, _, _, _, rfl, rfl, hx, at0, rfl, _, rfl, ifF (w_var (.rcd ls m)) ?_⟩
      refine ⟨_, rfl, a, _, _, _, rfl, rfl, hx, at0, rfl, _, rfl, ifF (w_tupY (.rcd ls m)) ?_⟩
      refine ⟨_, rfl, a, _, _, _, rfl, rfl, hx, at0, rfl, _, rfl, ifT (w_rec (.rcd ls m)) ?_⟩
      refine ⟨_, rfl, a, _, _, _, rfl, rfl, hx, rfl, l, rfl, ⟨_, off_same.seq h3x⟩, fun D hD => ?_⟩
      have hDd : D ≠ d := fun z => hdne (by rw [← z]; exact hD)
      have hsz6 := ylen_sizes ks
      refine lc_list (K := K) (a := l) (xs := bs.map V.ref) (fun i X => ∃ (G : Hp) (cs : List Addr) (us : List V), Same G X ∧ G D = none ∧ Keep d H G ∧ G d = some (.dK (numK (Ty.nums (ks.take i) s).2)) ∧ X D = some (.lst (cs.map V.ref)) ∧ cs.length = i ∧
          (∀ (j : Nat) (c : Addr) (n : Str) (u : V), cs[j]? = some c → ls[j]? = some n → us[j]? = some u → SqT K (nw H G) c [.str n, u]) ∧ Al (fun u t => Tr K (nw H G) u t) us (Ty.nums (ks.take i) s).1)
        ⟨H, [], [], same_new hD _, hD, Keep.refl _ _, hd, upd_same, rfl, fun j c n u e => by simp at e, al0⟩ (fun i X hi ⟨G, _, _, g1, _, g3, _⟩ => (g3.offD.trans (off_same.trans g1)).seq h3x) ?_ ?_
      · rintro j x X hxx ⟨G, cs, us, g1, g2, g3, g4, g5, g7, g8, g6⟩
        obtain ⟨b, hb1, hb2, rfl⟩ := get_map hxx
        have kX := g3.same g1
        have oX : Same (off d H) (off d X) := kX.offD
        have hj := (List.getElem?_eq_some_iff.mp hb2).1
        have hvj : vs[j]? = some (vs[j]'(by omega)) := List.getElem?_eq_getElem (by omega)
        have hnj : ls[j]? = some (ls[j]'(by omega)) := List.getElem?_eq_getElem (by omega)
        have ht := (off_same.tupS (oX.tupS (h7x j b _ _ hb2 hnj hvj)))
        have htj : ks[j]? = some (ks[j]'(by omega)) := List.getElem?_eq_getElem (by omega)
        have htm := h8x j _ _ hvj htj
        have hmem := List.getElem_mem (by omega : j < ks.length)
        generalize ks[j]'(by omega) = t at *
        generalize vs[j]'(by omega) = x at *
        generalize ls[j]'(by omega) = nm at *
        refine ⟨b, _, rfl, ht, rfl, ?_⟩
        refine ⟨_, _, rfl, ⟨_, _, rfl, rfl, ?_⟩⟩
        refine ⟨rfl, ?_⟩
        refine yes_of (ifTt rfl ?_)
        have ek := take_snoc htj
        have en := nums_snoc14 t (ks.take j) s
        rw [← ek] at en
        have hsl := nums_len (ks.take j) s
        have hst2 := ysizes_take ks (j + 1)
        rw [ek, ysizes_app] at hst2
        simp only [Ty.sizes] at hst2
        have hsk := ysize_kid hmem
        have hdk := ydeep_kid hmem
        have htX := htm.same oX
        refine ⟨_, rfl, _, rfl, _, rfl, x, t, d, _, rfl, g1 _ _ g4, htX, hW.kid hmem, by omega, by omega, by omega, fun r X' kx hx2 tr _ => ⟨sz (by simp), fun pt hpt => ?_⟩⟩
        have St := same_new hpt (.tup [V.str nm, r])
        obtain ⟨b1, b2, b3, b4, b5, b6, b7⟩ := growD (L := .lst (cs.map V.ref ++ [.ref pt])) g1 g2 g3 hdne (by rw [g4]; simp) g5 (kx.same St)
        have hul := g6.1
        rw [nums_size, List.length_take] at hul
        have ptD : pt ≠ D := fun z => by rw [z] at hpt; rw [kx _ _ b7 g5] at hpt; cases hpt
        have ptd : pt ≠ d := fun z => by rw [z, hx2] at hpt; cases hpt
        have hptH : H pt = none := keep_none (kX.trans kx) ptd hpt
        refine ⟨cs.map V.ref, b4, sz (by rw [List.length_map]; omega), off D (upd X' pt (.tup [V.str nm, r])), cs ++ [pt], us ++ [r], b1, b2, b3, ?_, ?_, by simp [g7], ?_, ?_⟩
        · rw [off_ne b7.symm, St _ _ hx2, en]
        · rw [upd_same, List.map_append]
          rfl
        · intro j' c n u e1 e2 e3
          rcases getSnoc e1 with ⟨q1, e1⟩ | ⟨q1, rfl⟩
          · rcases getSnoc e3 with ⟨_, e3⟩ | ⟨q3, _⟩
            · exact b5.tupS (g8 j' c n u e1 e2 e3)
            · omega
          · rcases getSnoc e3 with ⟨q3, _⟩ | ⟨_, rfl⟩
            · omega
            · rw [q1, g7, hnj] at e2
              injection e2 with e2
              rw [← e2]
              exact SqT.of (by rw [nw_of hptH, off_ne ptD, upd_same])
        · rw [en]
          exact (g6.mono fun u t _ z => z.same b5).snoc ((tr.same (nw_same St)).same b6)
      · rintro X ⟨G, cs, us, g1, g2, g3, g4, g5, g7, g8, g6⟩
        rw [List.length_map, h4x, List.take_length] at g4 g6
        rw [List.length_map] at g7
        have b7 := nw_same (H := H) g1
        have kX := g3.same g1
        have hDX := (nw_of (H' := G) hD)
        refine gn ?_
        have hxX := off_same.tupS (kX.offD.tupS h2x)
        have hsl := nums_len ks s
        have fin : ∀ (X2 : Hp) (m' : Option Nat) (S2 : List Nat), Keep d X X2 → X2 d = some (.dK (numK S2)) → ((Hy.rcd ls m).num (Ty.nums ks s).2 = .rcd ls m') → (Hy.rcd ls m).seen (Ty.nums ks s).2 = S2 → ∀ p, X2 p = none → Q (.ref p) (upd X2 p (.tup [V.str "record", .ref D, tailV m'])) := fun X2 m' S2 k2 e2 en es p hp2 => by
          have Sp := same_new hp2 (.tup [V.str "record", .ref D, tailV m'])
          have kk := kX.trans k2
          have hpH : H p = none := keep_none kk (fun z => by rw [z, e2] at hp2; cases hp2) hp2
          have b8 := nw_keepD (H := H) k2 hdne
          have b9 := nw_same (H := H) Sp
          have bt := (b7.trans b8).trans b9
          refine q _ _ (kk.same Sp) ?_ ?_ ?_
          · rw [Sp _ _ e2, ← es]
            rfl
          · show Tr K _ _ (.node ((Hy.rcd ls m).num (Ty.nums ks s).2) (Ty.nums ks s).1)
            rw [en]
            have hn := nums_size ks s
            have hl6 := g6.1
            exact .rcd (SqT.of (nw_at hpH)) (SqL.of ((b8.trans b9) _ _ ((nw_of hD).trans g5))) (by omega) (by omega) (by omega) (fun j c n u e1 e2 e3 => bt.tupS (g8 j c n u e1 e2 e3)) fun i u t e1 e2 => (g6.2 i u t e1 e2).same bt
          · intro _
            refine ⟨p, D, cs.map V.ref, [tailV m'], rfl, ?_, (b8.trans b9) _ _ ((nw_of hD).trans g5)⟩
            have ew : ((Ty.node (.rcd ls m) ks).num s).1.hd.word = (Hy.rcd ls m').word := by
              show ((Hy.rcd ls m).num (Ty.nums ks s).2).word = _
              rw [en]
            rw [ew]
            exact nw_at hpH
        have hd2 := g1 _ _ g4
        cases m with
        | none =>
          refine ⟨_, rfl, _, rfl, a, _, _, _, rfl, rfl, hxX, rfl, rfl, _, rfl, ifT rfl ?_⟩
          exact ⟨sz (by simp), fun p hp2 => fin X none _ (Keep.refl _ _) hd2 rfl rfl p hp2⟩
        | some m =>
          refine ⟨_, rfl, _, rfl, a, _, _, _, rfl, rfl, hxX, rfl, rfl, _, rfl, ifF rfl ?_⟩
          refine ⟨_, rfl, d, rfl, .inl ⟨_, .inl hd2⟩, _, rfl, a, _, _, _, rfl, rfl, hxX, rfl, _, rfl, d, _, rfl, hd2, ?_⟩
          refine setd_num hd2 (by omega) fun H' hE hN => ⟨sz (by simp), fun p hp2 => ?_⟩
          exact fin H' (some ((Ty.nums ks s).2.idxOf m)) _ (fun b o hb e => by rw [hE b hb]; exact e) hN rfl rfl p hp2
    | _ => exact absurd rfl hp
end
end Vt


set_option Elab.async false
set_option linter.all false
set_option maxRecDepth 100000
set_option maxHeartbeats 4000000

namespace Vt
open PySem PySem.Spec PyProof.Rows L2 TL
/-- f'..' -/
def tFS (ts : List TE) : TE := fun σ H Q => tJs ts Str.empty σ H fun out H1 => Q (.str out) H1
theorem pe_fs {X : Cx} {v1 v2 : Expr} {rest : List Expr} {ts : List TE} {pos : Pos} (h : PJ X (v1 :: v2 :: rest) ts) : PE X (.JoinedStr (v1 :: v2 :: rest) pos) (tFS ts) := pe_joined h
/-! ### renumbered -/
def spRenum (K : PySem.W.Frag) : Sp := fun vs H Q _ => ∃ (v : V) (t : Ty) (lab : Nat → Option (List Str)), vs = [v] ∧ Tr K H v t ∧ Gt lab t ∧ ∀ (r : V) (H' : Hp), Same H H' → Tr K (nw H H') r (t.num []).1 → TopL (nw H H') r (t.num []).1 → Q r H'
/-! ### names of marks -/
theorem mkn_len : ∀ k n : Nat, n ≤ k → (mkn n).length ≤ n := by
  intro k
  induction k with
  | zero =>
    intro n h
    obtain rfl : n = 0 := by omega
    rw [mkn_zero]
    exact Nat.le_refl _
  | succ k ih =>
    intro n h
    by_cases hn : n = 0
    · rw [hn, mkn_zero]
      exact Nat.le_refl _
    · rw [mkn_pos hn, List.length_append]
      have := ih ((n - 1) / 26) (by omega)
      simp only [List.length_cons, List.length_nil]
      omega
theorem letters_at : ∀ k : Nat, k < 26 → (Str.ofString "abcdefghijklmnopqrstuvwxyz").cps.toList[k]? = some (97 + k) := by
  have : ∀ k : Fin 26, (Str.ofString "abcdefghijklmnopqrstuvwxyz").cps.toList[k.val]? = some (97 + k.val) := by decide +kernel
  exact fun k h => this ⟨k, h⟩
theorem w_fnY (h : Hy) : decide (V.str h.word = V.str "fun") = (h.rank == 0) := by cases h <;> kernel_rfl
theorem w_ft (h : Hy) : inV (V.str h.word) [V.str "fun", V.str "tuple"] = decide (h.rank < 2) := by cases h <;> kernel_rfl
def spMarkName : Sp := fun vs H Q _ => ∃ n : Nat, vs = [.int (n : Nat)] ∧ n ≤ 100000 ∧ ∀ (z : Str) (H' : Hp), Same H H' → tl z = 39 :: mkn (n + 1) → Q (.str z) H'
def spNameOf : Sp := fun vs H Q _ => ∃ (m : Nat) (d : Addr) (s : List Nat), vs = [.int (m : Nat), .ref d] ∧ H d = some (.dK (numK s)) ∧ s.length ≤ 100000 ∧ ∀ (z : Str) (H' : Hp), Keep d H H' → H' d = some (.dK (numK (addM m s))) → tl z = 39 :: mkn (s.idxOf m + 1) → Q (.str z) H'
/-- whether brackets stand around what begins with such a word -/
def brk (ar : Str) (st : Int) (h : Hy) : Bool := if ar = "fun" then h.rank == 0 && decide (st = 0) else ar == "tuple" && decide (h.rank < 2)
def spNeeds : Sp := fun vs H Q _ => ∃ (ar : Str) (st : Int) (h : Hy), vs = [.str ar, .int st, .str h.word] ∧ ∀ H', Same H H' → Q (.bl (brk ar st h)) H'
theorem joinL_len (S : List Nat) : ∀ l : List (List Nat), (joinL S l).length ≤ (l.map List.length).sum + l.length * S.length
  | [] => by simp [joinL]
  | [p] => by simp [joinL]
  | p :: q :: r => by
    have := joinL_len S (q :: r)
    simp only [joinL, List.length_append, List.map_cons, List.sum_cons, List.length_cons, Nat.succ_mul] at this ⊢
    omega
def spRecText (K : PySem.W.Frag) : Sp := fun vs H Q _ => ∃ (l : Addr) (zs : List Str) (tv : V) (to : Option Str), vs = [.ref l, tv] ∧ tv = (match to with | none => .non | some z => .str z) ∧ SqL K H l (zs.map V.str) ∧ (zs.map (·.length)).sum + zs.length * 2 ≤ 10000000 ∧ (∀ z, to = some z → z.length ≤ 100000) ∧
  ∀ (z : Str) (H' : Hp), Same H H' → tl z = 123 :: (joinL [44, 32] (zs.map tl) ++ (match to with | none => [125] | some y => (if zs = [] then [124, 32] else [32, 124, 32]) ++ (tl y ++ [125]))) → Q (.str z) H'
abbrev s_renumbered : Stmt := topS 36
abbrev N_renumbered : List Str := ["tree"]
theorem sc_renumbered : FnScope N_renumbered ["tree"] (defScope s_renumbered) := ⟨rfl, rfl, rfl, by decide +kernel, rfl, by decide +kernel, by decide +kernel⟩
abbrev s_mark_name : Stmt := topS 39
abbrev N_mark_name : List Str := ["number", "name", "left", "digit"]
theorem sc_mark_name : FnScope N_mark_name ["number"] (defScope s_mark_name) := ⟨rfl, rfl, rfl, by decide +kernel, rfl, by decide +kernel, by decide +kernel⟩
abbrev s_needs_brackets : Stmt := topS 40
abbrev N_needs_brackets : List Str := ["around", "step", "within"]
theorem sc_needs_brackets : FnScope N_needs_brackets ["around", "step", "within"] (defScope s_needs_brackets) := ⟨rfl, rfl, rfl, by decide +kernel, rfl, by decide +kernel, by decide +kernel⟩
abbrev s_name_of : Stmt := topS 41
abbrev N_name_of : List Str := ["mark", "numbers"]
theorem sc_name_of : FnScope N_name_of ["mark", "numbers"] (defScope s_name_of) := ⟨rfl, rfl, rfl, by decide +kernel, rfl, by decide +kernel, by decide +kernel⟩
abbrev s_record_text : Stmt := topS 43
abbrev N_record_text : List Str := ["fields", "tail", "held"]
theorem sc_record_text : FnScope N_record_text ["fields", "tail"] (defScope s_record_text) := ⟨rfl, rfl, rfl, by decide +kernel, rfl, by decide +kernel, by decide +kernel⟩
section
variable {P : Program} {w : World} {K : PySem.W.Frag} {mg : Str → Option Value} {base : Heap}
theorem ok_renumbered (S : Stands K mg "renumbered" s_renumbered ["tree"]) (H_check_tree : DefOk P w K mg base CX0 9 "check_tree" ["value"] (spCheck K)) (H_numbered_anew : DefOk P w K mg base CX0 101 "numbered_anew" ["tree", "numbers"] (spNum K 100)) : DefOk P w K mg base CX0 102 "renumbered" ["tree"] (spRenum K) := by
  obtain ⟨f, fd, F, hm, hb⟩ := S
  obtain ⟨f_check_tree, fd_check_tree, G_check_tree, m_check_tree, k_check_tree, b_check_tree⟩ := H_check_tree
  obtain ⟨f_numbered_anew, fd_numbered_anew, G_numbered_anew, m_numbered_anew, k_numbered_anew, b_numbered_anew⟩ := H_numbered_anew
  refine ⟨f, fd, ?_, hm, F.kp, hb⟩
  have nd := sc_renumbered.nd
  refine F.ok sc_renumbered (fun vs H Q E h => ?_) (fun cdv A outer s0 H vs Q E hr h => ?_)
  · obtain ⟨v, t, lab, rfl, _⟩ := h
    rfl
  obtain ⟨v, t, lab, rfl, hT, hW, q⟩ := h
  refine ⟨_, (pss_cons (ps_expr (pe_call G_check_tree (hr.mono (by decide)) rfl m_check_tree k_check_tree b_check_tree .nil pass0 (pa_cons (pv 0) pa_nil)))
      (pss_one (ps_ret (pe_call G_numbered_anew (hr.mono (by decide)) rfl m_numbered_anew k_numbered_anew b_numbered_anew .nil pass0 (pa_cons (pv 0) (pa_cons pe_dnewK pa_nil)))))), ?_⟩
  refine ⟨_, rfl, v, t, lab, rfl, hT, hW, fun H1 S1 => ?_⟩
  refine ⟨_, rfl, fun d hd => ?_⟩
  have Sd := same_new hd (.dK [])
  have hdH : H d = none := S1.fr hd
  refine ⟨v, t, d, [], rfl, upd_same, hT.same ((S1.trans Sd).off hdH), hW.gd.wy, hW.sz, by have := hW.sz; simp only [List.length_nil]; omega, hW.dp, fun r H' k e tr tp => ?_⟩
  have sn : Same (nw (upd H1 d (.dK [])) H') (nw H H') := fun b o eb => by
    obtain ⟨e1, e2⟩ := nw_get eb
    have nb : b ≠ d := fun z => by rw [z, upd_same] at e1; cases e1
    rw [upd_ne nb] at e1
    rw [nw_of (S1.fr e1)]
    exact e2
  exact q r H' (fun b o eb => k b o (fun z => by rw [z, hdH] at eb; cases eb) ((S1.trans Sd) _ _ eb)) (tr.same sn) (tp.same sn)
theorem ok_mark_name (S : Stands K mg "mark_name" s_mark_name ["number"]) (Z : Blt mg) (z_divmod : mg "divmod" = none) (hL : ∃ t, mg "LETTERS" = some (.str "abcdefghijklmnopqrstuvwxyz" t)) : DefOk P w K mg base CX0 1 "mark_name" ["number"] spMarkName := by
  have z_len := Z.len
  obtain ⟨tL, c_LETTERS⟩ := hL
  have c_LETTERS_r : RelV (.str "abcdefghijklmnopqrstuvwxyz") (Value.str "abcdefghijklmnopqrstuvwxyz" tL) := ⟨tL, rfl⟩
  obtain ⟨f, fd, F, hm, hb⟩ := S
  refine ⟨f, fd, ?_, hm, F.kp, hb⟩
  have nd := sc_mark_name.nd
  refine F.ok sc_mark_name (fun vs H Q E h => ?_) (fun cdv A outer s0 H vs Q E hr h => ?_)
  · obtain ⟨n, rfl, _⟩ := h
    rfl
  obtain ⟨n, rfl, hn, q⟩ := h
  refine ⟨_, (pss_cons (ps_set (i := 1) nd rfl (Or.inl rfl) pe_str)
      (pss_cons (ps_set (i := 2) nd rfl (Or.inl rfl) (pe_op op_add (pv 0) pe_int))
      (pss_cons (ps_while PassesOwn.never (pt_cmpR op_gt (pv 2) pe_int (nomark _)) (pss_cons (ps_asg (pe_callB call_divmod (by rfl) z_divmod (by decide +kernel) (pa_cons (pe_op op_sub (pv 2) pe_int) (pa_cons (pe_callB call_len_str (by rfl) z_len (by decide +kernel) (pa_cons (pe_glob rfl c_LETTERS c_LETTERS_r) pa_nil)) pa_nil))) (pg_tup rfl (pgs_cons (pg_name (i := 2) nd rfl (Or.inl rfl)) (pgs_cons (pg_name (i := 3) nd rfl (Or.inl rfl)) pgs_nil))))
      (pss_one (ps_set (i := 1) nd rfl (Or.inl rfl) (pe_op op_add_str (pe_ix ix_str (pe_glob rfl c_LETTERS c_LETTERS_r) (pv 3) (fun _ _ => rfl)) (pv 1))))))
      (pss_one (ps_ret (pe_op op_add_str pe_str (pv 1))))))), ?_⟩
  have h26 : (Str.ofString "abcdefghijklmnopqrstuvwxyz").length = 26 := by decide +kernel
  refine gn ?_
  refine ⟨_, rfl, _, _, rfl, rfl, ?_⟩
  refine gn ?_
  dsimp only
  refine while_by (fun σ X => ∃ (z : Str) (l : Nat) (s3 : Option V), σ = [some (.int (n : Nat)), some (.str z), some (.int (l : Nat)), s3] ∧ Same H X ∧ mkn l ++ tl z = mkn (n + 1))
    (fun σ X => match σ[2]? with | some (some (V.int l)) => l.toNat | _ => 0) ?_ ?_ ?_
  · exact ⟨"", n + 1, none, rfl, Same.refl _, by show mkn (n + 1) ++ [] = _; rw [List.append_nil]⟩
  · rintro σ X ⟨z, l, s3, rfl, sX, ez⟩
    have hzl : z.length ≤ n + 1 := by
      have h1 := congrArg List.length ez
      have h2 := mkn_len (n + 1) (n + 1) (Nat.le_refl _)
      rw [List.length_append] at h1
      rw [len_tl]
      omega
    refine ⟨_, rfl, _, _, rfl, rfl, _, rfl, ?_⟩
    by_cases c : l = 0
    · subst c
      refine ifF (decide_eq_false (by omega)) ?_
      rw [mkn_zero, List.nil_append] at ez
      refine ⟨_, rfl, _, _, rfl, rfl, ?_, q _ X sX ?_⟩
      · have : (Str.ofString "'").length = 1 := by decide +kernel
        rw [this]
        exact Nat.le_of_lt (sm9 (by omega))
      · rw [tl_append, ez]
        rfl
    · refine ifT (decide_eq_true (by omega)) ?_
      refine ⟨_, rfl, _, _, rfl, rfl, _, rfl, by rw [h26]; exact sz (by decide), _, _, rfl, ⟨by rw [h26]; decide, by rw [h26]; decide⟩, fun p hp => ?_⟩
      refine ⟨p, _, rfl, SqT.of upd_same, rfl, ?_⟩
      refine ⟨_, _, rfl, ⟨_, _, rfl, ⟨rfl, ?_⟩⟩⟩
      have ed : (((l : Nat) : Int) - 1) % (((Str.ofString "abcdefghijklmnopqrstuvwxyz").length : Nat) : Int) = (((l - 1) % 26 : Nat) : Int) := by rw [h26]; omega
      have el : (((l : Nat) : Int) - 1) / (((Str.ofString "abcdefghijklmnopqrstuvwxyz").length : Nat) : Int) = (((l - 1) / 26 : Nat) : Int) := by rw [h26]; omega
      have hat : atI (Str.ofString "abcdefghijklmnopqrstuvwxyz").cps.toList ((((l : Nat) : Int) - 1) % (((Str.ofString "abcdefghijklmnopqrstuvwxyz").length : Nat) : Int)) = some (97 + (l - 1) % 26) := by
        rw [ed]
        exact atI_nat (letters_at _ (Nat.mod_lt _ (by decide)))
      refine ⟨_, rfl, _, _, 97 + (l - 1) % 26, rfl, rfl, by rw [h26]; exact sz (by decide), hat, _, rfl, _, _, rfl, rfl, ?_, ?_⟩
      · show 1 + z.length ≤ sizeLine
        exact Nat.le_of_lt (sm9 (by omega))
      · refine ⟨⟨⟨#[97 + (l - 1) % 26]⟩ ++ z, (l - 1) / 26, some (.int ((((l : Nat) : Int) - 1) % (((Str.ofString "abcdefghijklmnopqrstuvwxyz").length : Nat) : Int))), ?_, sX.trans (same_new hp _), ?_⟩, ?_⟩
        · rw [← el]
          rfl
        · rw [tl_append, ← ez, mkn_pos c, List.append_assoc]
        · show ((((l : Nat) : Int) - 1) / (((Str.ofString "abcdefghijklmnopqrstuvwxyz").length : Nat) : Int)).toNat < ((l : Nat) : Int).toNat
          rw [el]
          omega
  · intro σ X Q1 Q2 m z
    obtain ⟨x, e, i, j, e1, e2, k, e3, z⟩ := z
    exact ⟨x, e, i, j, e1, e2, k, e3, m _ _ z⟩
theorem ok_needs (S : Stands K mg "needs_brackets" s_needs_brackets ["around", "step", "within"]) : DefOk P w K mg base CX0 1 "needs_brackets" ["around", "step", "within"] spNeeds := by
  obtain ⟨f, fd, F, hm, hb⟩ := S
  refine ⟨f, fd, ?_, hm, F.kp, hb⟩
  have nd := sc_needs_brackets.nd
  refine F.ok sc_needs_brackets (fun vs H Q E h => ?_) (fun cdv A outer s0 H vs Q E hr h => ?_)
  · obtain ⟨ar, st, h, rfl, _⟩ := h
    rfl
  obtain ⟨ar, st, h, rfl, q⟩ := h
  refine ⟨_, (pss_cons (ps_if (pt_cmpR op_eq (pv 0) pe_str (nomark _)) (pss_one (ps_ret (pe_and (pe_cmpR op_eq (pv 2) pe_str (nomark _)) (pe_one (pe_cmpR op_eq (pv 1) pe_int (nomark _)))))) pss_nil)
      (pss_one (ps_ret (pe_and (pe_cmpR op_eq (pv 0) pe_str (nomark _)) (pe_one (pe_cmpR op_in_seq (pv 2) (pe_tup (pa_cons pe_str (pa_cons pe_str pa_nil))) (by rfl))))))), ?_⟩
  have q0 := q H (Same.refl _)
  refine ⟨_, rfl, rfl, _, rfl, ?_⟩
  by_cases c1 : ar = "fun"
  · refine ifT (decide_eq_true (by rw [c1])) ?_
    unfold brk at q0
    rw [if_pos c1] at q0
    refine ⟨_, rfl, rfl, _, rfl, ?_⟩
    rw [w_fnY]
    by_cases c2 : h.rank = 0
    · refine ifT (by rw [c2]; rfl) ?_
      refine ⟨_, rfl, rfl, ?_⟩
      rw [c2] at q0
      have e : decide (V.int st = V.int 0) = decide (st = 0) := by
        by_cases z : st = 0
        · rw [z]; rfl
        · rw [decide_eq_false z, decide_eq_false (fun y => z (by injection y))]
      show Q (.bl (decide (V.int st = V.int 0))) H
      rw [e]
      exact q0
    · have e : (h.rank == 0) = false := by simpa using c2
      refine ifF e ?_
      rw [e] at q0
      exact q0
  · refine ifF (decide_eq_false fun z => c1 (by injection z)) ?_
    unfold brk at q0
    rw [if_neg c1] at q0
    refine ⟨_, rfl, rfl, _, rfl, ?_⟩
    by_cases c2 : ar = "tuple"
    · refine ifT (decide_eq_true (by rw [c2])) ?_
      refine ⟨_, rfl, sz (by simp), fun p hp => ?_⟩
      refine ⟨p, _, rfl, .inr (SqT.of upd_same), rfl, rfl, ?_⟩
      have e : (ar == "tuple") = true := by rw [c2]; decide +kernel
      have := q _ (same_new hp (.tup [V.str "fun", V.str "tuple"]))
      unfold brk at this
      rw [if_neg c1, e] at this
      show Q (.bl (inV (V.str h.word) [V.str "fun", V.str "tuple"])) _
      rw [w_ft]
      exact this
    · refine ifF (decide_eq_false fun z => c2 (by injection z)) ?_
      have e : (ar == "tuple") = false := by simpa using c2
      rw [e] at q0
      exact q0
theorem ok_name_of (S : Stands K mg "name_of" s_name_of ["mark", "numbers"]) (Z : Blt mg) (H_mark_name : DefOk P w K mg base CX0 1 "mark_name" ["number"] spMarkName) : DefOk P w K mg base CX0 2 "name_of" ["mark", "numbers"] spNameOf := by
  have z_len := Z.len
  obtain ⟨f, fd, F, hm, hb⟩ := S
  obtain ⟨f_mark_name, fd_mark_name, G_mark_name, m_mark_name, k_mark_name, b_mark_name⟩ := H_mark_name
  refine ⟨f, fd, ?_, hm, F.kp, hb⟩
  have nd := sc_name_of.nd
  refine F.ok sc_name_of (fun vs H Q E h => ?_) (fun cdv A outer s0 H vs Q E hr h => ?_)
  · obtain ⟨m, d, s, rfl, _⟩ := h
    rfl
  obtain ⟨m, d, s, rfl, hd, hl, q⟩ := h
  refine ⟨_, (pss_one (ps_ret (pe_call G_mark_name (hr.mono (by decide)) rfl m_mark_name k_mark_name b_mark_name .nil pass0 (pa_cons (pe_dsetd (pv 1) (pv 0) (pe_callB call_lenD (by rfl) z_len (by decide +kernel) (pa_cons (pv 1) pa_nil)) ⟨rfl, rfl, rfl, rfl⟩) pa_nil)))), ?_⟩
  refine ⟨_, rfl, d, rfl, .inl ⟨_, .inl hd⟩, _, rfl, _, rfl, d, _, rfl, hd, ?_⟩
  refine setd_num hd (by omega) fun H' hE hN => ?_
  have := List.idxOf_le_length (a := m) (l := s)
  exact ⟨_, rfl, by omega, fun z H2 S2 e => q z H2 (fun b o hb eb => S2 _ _ (by rw [hE b hb]; exact eb)) (S2 _ _ hN) e⟩
theorem ok_record_text (S : Stands K mg "record_text" s_record_text ["fields", "tail"]) : DefOk P w K mg base CX0 1 "record_text" ["fields", "tail"] (spRecText K) := by
  obtain ⟨f, fd, F, hm, hb⟩ := S
  refine ⟨f, fd, ?_, hm, F.kp, hb⟩
  have nd := sc_record_text.nd
  refine F.ok sc_record_text (fun vs H Q E h => ?_) (fun cdv A outer s0 H vs Q E hr h => ?_)
  · obtain ⟨l, zs, tv, to, rfl, _⟩ := h
    rfl
  obtain ⟨l, zs, tv, to, rfl, htv, hl, hz, ht, q⟩ := h
  refine ⟨_, (pss_cons (ps_set (i := 2) nd rfl (Or.inl rfl) (pe_bm PySem.F.plainAttrs_str PySem.F.slot_str_join PySem.F.type_str_join mt_join pe_str (pa_cons (pv 0) pa_nil)))
      (pss_cons (ps_if (pt_cmpR op_isN (pv 1) pe_non (nomark _)) (pss_one (ps_ret (pe_op op_add_str (pe_op op_add_str pe_str (pv 2)) pe_str))) pss_nil)
      (pss_one (ps_ret (pe_ifExp (pt_truth (pv 0) (by intro _; rfl)) (pe_op op_add_str (pe_op op_add_str (pe_op op_add_str (pe_op op_add_str pe_str (pv 2)) pe_str) (pv 1)) pe_str) (pe_op op_add_str (pe_op op_add_str pe_str (pv 1)) pe_str)))))), ?_⟩
  have hjl : (Txt.join ", " zs).length ≤ 10000000 := by
    have e : tl (Txt.join ", " zs) = joinL [44, 32] (zs.map tl) := by rw [join_eq, tl_join]; rfl
    rw [len_tl, e]
    have em : (zs.map tl).map List.length = zs.map (·.length) := by
      rw [List.map_map]
      exact List.map_congr_left fun x _ => (len_tl x).symm
    exact Nat.le_trans (joinL_len _ _) (by rw [em, List.length_map]; exact hz)
  have ej : tl (Txt.join ", " zs) = joinL [44, 32] (zs.map tl) := by rw [join_eq, tl_join]; rfl
  refine ⟨rfl, _, rfl, _, l, zs, rfl, rfl, .inl hl, by show _ + zs.length * 2 ≤ _; omega, ?_⟩
  refine gn ?_
  have lb : ∀ n : Nat, n ≤ 16000000 → n ≤ sizeLine := fun n h => Nat.le_trans h (by decide)
  have l1 : (Str.ofString "{").length = 1 := by decide +kernel
  have l2 : (Str.ofString "}").length = 1 := by decide +kernel
  have l3 : (Str.ofString " | ").length = 3 := by decide +kernel
  have l4 : (Str.ofString "{| ").length = 3 := by decide +kernel
  have la : ∀ a b : Str, (a ++ b).length = a.length + b.length := fun a b => by rw [len_tl, tl_append, List.length_append, ← len_tl, ← len_tl]
  generalize Txt.join ", " zs = J at *
  refine ⟨_, rfl, rfl, _, rfl, ?_⟩
  cases to with
  | none =>
    subst htv
    refine ifT (decide_eq_true rfl) ?_
    refine ⟨_, rfl, _, _, rfl, rfl, lb _ (by rw [l1]; omega), _, _, rfl, rfl, lb _ (by rw [la, l1, l2]; omega), ?_⟩
    refine q _ H (Same.refl _) ?_
    rw [tl_append, tl_append, ej]
    rfl
  | some y =>
    subst htv
    have hy := ht y rfl
    refine ifF (decide_eq_false (fun z => by cases z)) ?_
    refine ⟨_, rfl, !(zs.map V.str).isEmpty, .inl ⟨_, hl, rfl⟩, ?_⟩
    cases zs with
    | nil =>
      refine ifF rfl ?_
      refine ⟨_, rfl, _, _, rfl, rfl, lb _ (by rw [l4]; omega), _, _, rfl, rfl, lb _ (by rw [la, l4, l2]; omega), ?_⟩
      refine q _ H (Same.refl _) ?_
      rw [tl_append, tl_append]
      rfl
    | cons z0 zr =>
      refine ifT rfl ?_
      refine ⟨_, rfl, _, _, rfl, rfl, lb _ (by rw [l1]; omega), _, _, rfl, rfl, lb _ (by rw [la, l1, l3]; omega), _, rfl, _, _, rfl, rfl, lb _ (by rw [la, la, l1, l3]; omega), _, _, rfl, rfl, lb _ (by rw [la, la, la, l1, l2, l3]; omega), ?_⟩
      refine q _ H (Same.refl _) ?_
      rw [tl_append, tl_append, tl_append, tl_append, ej]
      simp only [List.append_assoc]
      rfl
end
end Vt


set_option Elab.async false
set_option linter.all false
set_option maxRecDepth 100000
set_option maxHeartbeats 4000000

namespace Vt
open PySem PySem.Spec PyProof.Rows L2 TL
/-! ### how long texts are -/
def HySm (M : Nat) : Hy → Prop
  | .var n => n ≤ M
  | .rcd ls m => ls.length ≤ 60 ∧ (∀ l ∈ ls, (tl l).length ≤ 8) ∧ ∀ k, m = some k → k ≤ M
  | _ => True
inductive Sm (M : Nat) : Ty → Prop
  | mk {h : Hy} {ks : List Ty} : okHy h ks.length → HySm M h → (∀ t ∈ ks, Sm M t) → Sm M (.node h ks)
theorem wrs_map : ∀ ks : List Ty, Ty.wrs ks = ks.map fun t => (t.rank, t.wr)
  | [] => rfl
  | t :: r => by simp only [Ty.wrs, wrs_map r, List.map_cons]
def wsum (l : List Pt) : Nat := (l.map fun a => a.2.length + 12).sum
theorem at_len (L : Nat) (a : Pt) : (at_ L a).length ≤ a.2.length + 2 := by
  unfold at_
  split
  · simp only [List.length_cons, List.length_append, List.length_nil]
    omega
  · omega
theorem sepT_len : ∀ l : List Pt, (sepT l).length ≤ wsum l
  | [] => by simp [sepT, wsum]
  | [a] => by
    have := at_len 2 a
    simp only [sepT, wsum, List.map_cons, List.map_nil, List.sum_cons, List.sum_nil]
    omega
  | a :: b :: r => by
    have := at_len 2 a
    have h2 := sepT_len (b :: r)
    simp only [sepT, wsum, List.map_cons, List.sum_cons, List.length_append, List.length_cons, List.length_nil] at h2 ⊢
    omega
theorem flds_len : ∀ (ls : List Str) (l : List Pt), (∀ x ∈ ls, (tl x).length ≤ 8) → (flds ls l).length ≤ wsum l
  | [], [], _ => by simp [flds]
  | [], a :: r, _ => by simp [flds]
  | [x], [], _ => by simp [flds]
  | [x], [a], h => by
    have := h x (by simp)
    simp only [flds, wsum, List.map_cons, List.map_nil, List.sum_cons, List.sum_nil, List.length_append, List.length_cons, List.length_nil]
    omega
  | [x], a :: b :: r, _ => by simp [flds]
  | x :: y :: ls, [], _ => by simp [flds]
  | x :: y :: ls, a :: r, h => by
    have h1 := h x (by simp)
    have h2 := flds_len (y :: ls) r fun z m => h z (List.mem_cons_of_mem _ m)
    simp only [flds, wsum, List.map_cons, List.sum_cons, List.length_append, List.length_cons, List.length_nil] at h2 ⊢
    omega
theorem wsum_le {n : Nat} : ∀ {ks : List Ty}, (∀ t ∈ ks, t.wr.length + 12 ≤ n * t.size) → wsum (Ty.wrs ks) ≤ n * Ty.sizes ks
  | [], _ => by simp [Ty.wrs, wsum]
  | t :: r, h => by
    have h1 := h t (by simp)
    have h2 := wsum_le (ks := r) fun u m => h u (List.mem_cons_of_mem _ m)
    simp only [Ty.wrs, wsum, List.map_cons, List.sum_cons, Ty.sizes, Nat.mul_add] at h2 ⊢
    omega
theorem mkn_le {M n : Nat} (h : n ≤ M) : (mkn (n + 1)).length ≤ M + 1 := Nat.le_trans (mkn_len (n + 1) (n + 1) (Nat.le_refl _)) (by omega)
theorem wr_len {M : Nat} (hM : M ≤ 2000) {t : Ty} (s : Sm M t) : t.wr.length + 12 ≤ 2100 * t.size := by
  induction s with
  | @mk h ks o sm _ ih =>
    have hs := wsum_le ih
    simp only [Ty.wr, Ty.size, Nat.mul_add]
    cases h with
    | var n =>
      have := mkn_le sm
      simp only [comb, List.length_cons]
      omega
    | int => simp only [comb, List.length_cons, List.length_nil]; omega
    | bool => simp only [comb, List.length_cons, List.length_nil]; omega
    | fn =>
      match ks, o with
      | [a, b], _ =>
        have := at_len 1 (a.rank, a.wr)
        simp only [Ty.wrs, wsum, List.map_cons, List.map_nil, List.sum_cons, List.sum_nil] at hs
        simp only [Ty.wrs, comb, List.length_append, List.length_cons, List.length_nil]
        simp only at this
        omega
    | tup =>
      have := sepT_len (Ty.wrs ks)
      simp only [comb]
      omega
    | rcd ls m =>
      have h1 := flds_len ls (Ty.wrs ks) sm.2.1
      have h2 : (tailT ls m).length ≤ M + 6 := by
        cases m with
        | none => simp [tailT]
        | some k =>
          have := mkn_le (sm.2.2 k rfl)
          cases ls with
          | nil =>
            simp only [tailT, List.length_append, List.length_cons, List.length_nil]
            omega
          | cons x r =>
            simp only [tailT, List.length_append, List.length_cons, List.length_nil]
            omega
      simp only [comb, List.length_cons, List.length_append]
      omega
theorem seen_le (h : Hy) (s : List Nat) : s.length ≤ (h.seen s).length := by
  unfold Hy.seen addM
  split
  · split <;> simp
  · exact Nat.le_refl _
mutual
theorem num_le : ∀ (t : Ty) (s : List Nat), s.length ≤ (t.num s).2.length
  | .node h ks, s => Nat.le_trans (nums_le ks s) (seen_le h _)
theorem nums_le : ∀ (ks : List Ty) (s : List Nat), s.length ≤ (Ty.nums ks s).2.length
  | [], s => Nat.le_refl _
  | t :: r, s => Nat.le_trans (num_le t s) (nums_le r _)
end
theorem hysm_num {M : Nat} {lab : Nat → Option (List Str)} {h : Hy} {s : List Nat} (f : Fit lab h) (hs : s.length ≤ M) : HySm M (h.num s) := by
  cases h with
  | var n => exact Nat.le_trans List.idxOf_le_length hs
  | rcd ls m =>
    have fl : ∀ l ∈ ls, (tl l).length ≤ 8 := fun l hl => by rw [← len_tl]; exact (f.2.1 l hl).2.1
    cases m with
    | none => exact ⟨f.1, fl, fun k e => by cases e⟩
    | some m => exact ⟨f.1, fl, fun k e => by injection e with e; rw [← e]; exact Nat.le_trans List.idxOf_le_length hs⟩
  | _ => trivial
mutual
theorem num_sm {M : Nat} {lab : Nat → Option (List Str)} : ∀ (t : Ty) (s : List Nat), Gd lab t → (t.num s).2.length ≤ M → Sm M (t.num s).1
  | .node h ks, s, g, hl => by
    have h1 : (Ty.nums ks s).2.length ≤ M := Nat.le_trans (seen_le h _) hl
    simp only [Ty.num]
    exact .mk (by rw [nums_size]; exact ok_num g.hd) (hysm_num g.fit h1) (nums_sm ks s (fun t m => g.kid m) h1)
theorem nums_sm {M : Nat} {lab : Nat → Option (List Str)} : ∀ (ks : List Ty) (s : List Nat), (∀ t ∈ ks, Gd lab t) → (Ty.nums ks s).2.length ≤ M → ∀ t ∈ (Ty.nums ks s).1, Sm M t
  | [], s, _, _ => fun t m => by cases m
  | u :: r, s, g, hl => fun t m => by
    simp only [Ty.nums, List.mem_cons] at m
    rcases m with rfl | m
    · exact num_sm u s (g u (by simp)) (Nat.le_trans (nums_le r _) hl)
    · exact nums_sm r _ (fun v mv => g v (List.mem_cons_of_mem _ mv)) hl t m
end
theorem sepT_join : ∀ l : List Pt, sepT l = joinL [32, 42, 32] (l.map (at_ 2))
  | [] => rfl
  | [a] => rfl
  | a :: b :: r => by
    have := sepT_join (b :: r)
    simp only [sepT, List.map_cons, joinL] at this ⊢
    rw [this]
theorem flds_join : ∀ (ls : List Str) (l : List Pt), ls.length = l.length → flds ls l = joinL [44, 32] (List.zipWith (fun n a => tl n ++ ([58, 32] ++ a.2)) ls l)
  | [], [], _ => rfl
  | [x], [a], _ => rfl
  | x :: y :: ls, a :: b :: r, h => by
    have := flds_join (y :: ls) (b :: r) (by simpa using h)
    simp only [flds, List.zipWith_cons_cons, joinL] at this ⊢
    rw [this]
    simp only [List.append_assoc]
mutual
theorem num_size : ∀ (t : Ty) (s : List Nat), (t.num s).1.size = t.size
  | .node h ks, s => by simp only [Ty.num, Ty.size, nums_sizes ks s]
theorem nums_sizes : ∀ (ks : List Ty) (s : List Nat), Ty.sizes (Ty.nums ks s).1 = Ty.sizes ks
  | [], _ => rfl
  | t :: r, s => by simp only [Ty.nums, Ty.sizes, num_size t s, nums_sizes r]
end
/-- the text of a tree that is numbered is short -/
theorem text_len {lab : Nat → Option (List Str)} {t : Ty} {s : List Nat} (g : Gd lab t) (h : s.length + t.size ≤ 1500) : (t.num s).1.wr.length + 12 ≤ 2100 * t.size := by
  have h1 := num_len t s
  have := wr_len (M := 1500) (by decide) (num_sm t s g (by omega))
  rw [num_size] at this
  exact this
theorem texts_len {lab : Nat → Option (List Str)} {ks : List Ty} {s : List Nat} (g : ∀ t ∈ ks, Gd lab t) (h : s.length + Ty.sizes ks ≤ 1500) : wsum (Ty.wrs (Ty.nums ks s).1) ≤ 2100 * Ty.sizes ks := by
  have h1 := nums_len ks s
  have h2 := nums_sm (M := 1500) ks s g (by omega)
  have := wsum_le (n := 2100) (ks := (Ty.nums ks s).1) fun t m => wr_len (by decide) (h2 t m)
  rw [nums_sizes] at this
  exact this
theorem at_sum : ∀ ks : List Ty, ((ks.map fun t => at_ 2 (t.rank, t.wr)).map List.length).sum + ks.length * 3 ≤ wsum (Ty.wrs ks)
  | [] => by simp [Ty.wrs, wsum]
  | t :: r => by
    have h1 := at_sum r
    have h2 := at_len 2 (t.rank, t.wr)
    simp only [Ty.wrs, wsum, List.map_cons, List.sum_cons, List.length_cons, Nat.succ_mul] at h1 h2 ⊢
    omega
theorem zip_sum : ∀ (ls : List Str) (ks : List Ty), (∀ l ∈ ls, (tl l).length ≤ 8) → ((List.zipWith (fun n (t : Ty) => tl n ++ ([58, 32] ++ t.wr)) ls ks).map List.length).sum + (List.zipWith (fun n (t : Ty) => tl n ++ ([58, 32] ++ t.wr)) ls ks).length * 2 ≤ wsum (Ty.wrs ks)
  | [], ks, _ => by simp
  | l :: ls, [], _ => by simp
  | l :: ls, t :: r, h => by
    have h1 := zip_sum ls r fun z m => h z (List.mem_cons_of_mem _ m)
    have h2 := h l (by simp)
    simp only [List.zipWith_cons_cons, Ty.wrs, wsum, List.map_cons, List.sum_cons, List.length_cons, List.length_append, List.length_nil, Nat.succ_mul] at h1 h2 ⊢
    omega
theorem brk_f0 (h : Hy) : brk "fun" 0 h = decide (h.rank < 1) := by
  unfold brk
  rw [if_pos rfl]
  cases h <;> rfl
theorem brk_f1 (h : Hy) : brk "fun" 1 h = decide (h.rank < 0) := by
  unfold brk
  rw [if_pos rfl]
  cases h <;> rfl
theorem brk_t (st : Int) (h : Hy) : brk "tuple" st h = decide (h.rank < 2) := by
  unfold brk
  rw [if_neg (by decide +kernel)]
  rfl
theorem len_map {zs : List Str} : zs.map (·.length) = (zs.map tl).map List.length := by
  rw [List.map_map]
  exact List.map_congr_left fun x _ => len_tl x
theorem lb16 {n : Nat} (h : n ≤ 16000000) : n ≤ sizeLine := Nat.le_trans h (by decide)
theorem la2 (a b : Str) : (a ++ b).length = a.length + b.length := by rw [len_tl, tl_append, List.length_append, ← len_tl, ← len_tl]
def spWr (K : PySem.W.Frag) (n : Nat) : Sp := fun vs H Q _ => ∃ (v : V) (t : Ty) (d : Addr) (s : List Nat) (lab : Nat → Option (List Str)), vs = [v, .ref d] ∧ H d = some (.dK (numK s)) ∧ Tr K (off d H) v t ∧ Gd lab t ∧ t.size ≤ 1000 ∧ s.length + t.size ≤ 1500 ∧ t.deep ≤ n ∧
  ∀ (z : Str) (H' : Hp), Keep d H H' → H' d = some (.dK (numK (t.num s).2)) → tl z = (t.num s).1.wr → Q (.str z) H'
def spPart (K : PySem.W.Frag) (n : Nat) : Sp := fun vs H Q _ => ∃ (ar : Str) (st : Int) (L : Nat) (v : V) (t : Ty) (d : Addr) (s : List Nat) (lab : Nat → Option (List Str)), vs = [.str ar, .int st, v, .ref d] ∧ (∀ h : Hy, brk ar st h = decide (h.rank < L)) ∧ H d = some (.dK (numK s)) ∧ Tr K (off d H) v t ∧ Gd lab t ∧ t.size ≤ 1000 ∧ s.length + t.size ≤ 1500 ∧ t.deep ≤ n ∧
  ∀ (z : Str) (H' : Hp), Keep d H H' → H' d = some (.dK (numK (t.num s).2)) → tl z = at_ L ((t.num s).1.rank, (t.num s).1.wr) → Q (.str z) H'
theorem rank_num (t : Ty) (s : List Nat) : (t.num s).1.rank = t.rank := by
  cases t with
  | node h ks =>
    cases h with
    | rcd ls m => cases m <;> rfl
    | _ => rfl
def spTText (K : PySem.W.Frag) : Sp := fun vs H Q _ => ∃ (v : V) (t : Ty) (lab : Nat → Option (List Str)), vs = [v] ∧ Tr K H v t ∧ Gt lab t ∧ ∀ (z : Str) (H' : Hp), Same H H' → tl z = t.text → Q (.str z) H'
abbrev s_part_text : Stmt := topS 42
abbrev N_part_text : List Str := ["around", "step", "tree", "numbers", "text"]
theorem sc_part_text : FnScope N_part_text ["around", "step", "tree", "numbers"] (defScope s_part_text) := ⟨rfl, rfl, rfl, by decide +kernel, rfl, by decide +kernel, by decide +kernel⟩
abbrev s_written_tree : Stmt := topS 44
abbrev N_written_tree : List Str := ["tree", "numbers", "fields", "step", "item", "name", "inner"]
theorem sc_written_tree : FnScope N_written_tree ["tree", "numbers"] (defScope s_written_tree) := ⟨rfl, rfl, rfl, by decide +kernel, rfl, by decide +kernel, by decide +kernel⟩
abbrev s_tree_text : Stmt := topS 45
abbrev N_tree_text : List Str := ["tree"]
theorem sc_tree_text : FnScope N_tree_text ["tree"] (defScope s_tree_text) := ⟨rfl, rfl, rfl, by decide +kernel, rfl, by decide +kernel, by decide +kernel⟩
section
variable {P : Program} {w : World} {K : PySem.W.Frag} {mg : Str → Option Value} {base : Heap}
theorem ok_written0 (S : Stands K mg "written_tree" s_written_tree ["tree", "numbers"]) : DefOk P w K mg base CX0 3 "written_tree" ["tree", "numbers"] (spWr K 0) := by
  obtain ⟨f, fd, F, hm, hb⟩ := S
  refine ⟨f, fd, ?_, hm, F.kp, hb⟩
  have nd := sc_written_tree.nd
  refine F.ok sc_written_tree (fun vs H Q E h => ?_) (fun cdv A outer s0 H vs Q E hr h => ?_)
  · obtain ⟨v, t, d, s, lab, rfl, _⟩ := h
    rfl
  obtain ⟨v, t, d, s, lab, rfl, hd, hT, hW, h1, h2, h3, q⟩ := h
  cases t
  simp only [Ty.deep] at h3
  omega
theorem ok_part_text {n k : Nat} (S : Stands K mg "part_text" s_part_text ["around", "step", "tree", "numbers"]) (H_written_tree : DefOk P w K mg base CX0 (k + 3) "written_tree" ["tree", "numbers"] (spWr K n)) (H_needs_brackets : DefOk P w K mg base CX0 1 "needs_brackets" ["around", "step", "within"] spNeeds) :
    DefOk P w K mg base CX0 (k + 4) "part_text" ["around", "step", "tree", "numbers"] (spPart K n) := by
  obtain ⟨f, fd, F, hm, hb⟩ := S
  obtain ⟨f_written_tree, fd_written_tree, G_written_tree, m_written_tree, k_written_tree, b_written_tree⟩ := H_written_tree
  obtain ⟨f_needs_brackets, fd_needs_brackets, G_needs_brackets, m_needs_brackets, k_needs_brackets, b_needs_brackets⟩ := H_needs_brackets
  refine ⟨f, fd, ?_, hm, F.kp, hb⟩
  have nd := sc_part_text.nd
  refine F.ok sc_part_text (fun vs H Q E h => ?_) (fun cdv A outer s0 H vs Q E hr h => ?_)
  · obtain ⟨ar, st, L, v, t, d, s, lab, rfl, _⟩ := h
    rfl
  obtain ⟨ar, st, L, v, t, d, s, lab, rfl, hL, hd, hT, hW, h1, h2, h3, q⟩ := h
  refine ⟨_, (pss_cons (ps_set (i := 4) nd rfl (Or.inl rfl) (pe_call G_written_tree (hr.mono (by omega)) rfl m_written_tree k_written_tree b_written_tree .nil pass0 (pa_cons (pv 2) (pa_cons (pv 3) pa_nil))))
      (pss_one (ps_ret (pe_ifExp (pt_val (pe_call G_needs_brackets (hr.mono (by omega)) rfl m_needs_brackets k_needs_brackets b_needs_brackets .nil pass0 (pa_cons (pv 0) (pa_cons (pv 1) (pa_cons (pe_ix ix_tup (pv 2) pe_int (fun _ _ => rfl)) pa_nil))))) (pe_fs (.cons pe_str (.cons (pe_fmt (pv 4)) (.cons pe_str .nil)))) (pv 4))))), ?_⟩
  have htx := text_len hW h2
  refine ⟨_, rfl, _, rfl, v, t, d, s, lab, rfl, hd, hT, hW, h1, h2, h3, fun z H1 k1 e1 ez => ?_⟩
  refine gn ?_
  obtain ⟨a, xs, rfl, hx0⟩ := hT.tuple
  have hx := off_same.tupS (k1.offD.tupS hx0)
  refine ⟨_, rfl, _, rfl, _, rfl, a, _, _, _, rfl, rfl, hx, at0, ar, st, t.hd, rfl, fun H2 S2 => ⟨_, rfl, ?_⟩⟩
  have hzl : z.length ≤ 2100000 := by
    rw [len_tl, ez]
    have : 2100 * t.size ≤ 2100 * 1000 := Nat.mul_le_mul_left _ h1
    omega
  have kk : Keep d H H2 := k1.same S2
  have l1 : (Str.ofString "(").length = 1 := by decide +kernel
  have l2 : (Str.ofString ")").length = 1 := by decide +kernel
  have l0 : Str.empty.length = 0 := rfl
  have hr2 : (t.num s).1.rank = t.hd.rank := by rw [rank_num]; cases t; rfl
  rw [hL]
  by_cases c : t.hd.rank < L
  · refine ifT (decide_eq_true c) ?_
    refine ⟨_, rfl, lb16 (by rw [la2, l0, l1]; omega), _, rfl, .inl ⟨z, rfl, lb16 (by omega), _, rfl, lb16 (by rw [la2, la2, l0, l1]; omega), _, rfl, lb16 (by rw [la2, la2, la2, l0, l1, l2]; omega), ?_⟩⟩
    refine q _ H2 kk (S2 _ _ e1) ?_
    unfold at_
    rw [if_pos (by show (t.num s).1.rank < L; rw [hr2]; exact c), tl_append, tl_append, tl_append, ez]
    rfl
  · refine ifF (decide_eq_false c) ?_
    refine ⟨_, rfl, q _ H2 kk (S2 _ _ e1) ?_⟩
    unfold at_
    rw [if_neg (by show ¬ (t.num s).1.rank < L; rw [hr2]; exact c), ez]
theorem ok_written {n k : Nat} (S : Stands K mg "written_tree" s_written_tree ["tree", "numbers"]) (Z : Blt mg) (H_written_tree : DefOk P w K mg base CX0 (k + 3) "written_tree" ["tree", "numbers"] (spWr K n)) (H_part_text : DefOk P w K mg base CX0 (k + 4) "part_text" ["around", "step", "tree", "numbers"] (spPart K n))
    (H_name_of : DefOk P w K mg base CX0 2 "name_of" ["mark", "numbers"] spNameOf) (H_record_text : DefOk P w K mg base CX0 1 "record_text" ["fields", "tail"] (spRecText K)) : DefOk P w K mg base CX0 (k + 5) "written_tree" ["tree", "numbers"] (spWr K (n + 1)) := by
  have z_enumerate := Z.enumerate
  obtain ⟨f, fd, F, hm, hb⟩ := S
  obtain ⟨f_written_tree, fd_written_tree, G_written_tree, m_written_tree, k_written_tree, b_written_tree⟩ := H_written_tree
  obtain ⟨f_part_text, fd_part_text, G_part_text, m_part_text, k_part_text, b_part_text⟩ := H_part_text
  obtain ⟨f_name_of, fd_name_of, G_name_of, m_name_of, k_name_of, b_name_of⟩ := H_name_of
  obtain ⟨f_record_text, fd_record_text, G_record_text, m_record_text, k_record_text, b_record_text⟩ := H_record_text
  refine ⟨f, fd, ?_, hm, F.kp, hb⟩
  have nd := sc_written_tree.nd
  refine F.ok sc_written_tree (fun vs H Q E h => ?_) (fun cdv A outer s0 H vs Q E hr h => ?_)
  · obtain ⟨v, t, d, s, lab, rfl, _⟩ := h
    rfl
  obtain ⟨v, t, d, s, lab, rfl, hd, hT, hW, h1, h2, h3, q⟩ := h
  refine ⟨_, (pss_cons (ps_if (pt_cmpR op_eq (pe_ix ix_tup (pv 0) pe_int (fun _ _ => rfl)) pe_str (nomark _)) (pss_one (ps_ret (pe_call G_name_of (hr.mono (by omega)) rfl m_name_of k_name_of b_name_of .nil pass0 (pa_cons (pe_ix ix_tup (pv 0) pe_int (fun _ _ => rfl)) (pa_cons (pv 1) pa_nil))))) pss_nil)
      (pss_cons (ps_if (pt_cmpR op_eq (pe_ix ix_tup (pv 0) pe_int (fun _ _ => rfl)) pe_str (nomark _)) (pss_one (ps_ret (pe_op op_add_str (pe_op op_add_str (pe_call G_part_text (hr.mono (by omega)) rfl m_part_text k_part_text b_part_text .nil pass0 (pa_cons pe_str (pa_cons pe_int (pa_cons (pe_ix ix_tup (pv 0) pe_int (fun _ _ => rfl)) (pa_cons (pv 1) pa_nil))))) pe_str) (pe_call G_part_text (hr.mono (by omega)) rfl m_part_text k_part_text b_part_text .nil pass0 (pa_cons pe_str (pa_cons pe_int (pa_cons (pe_ix ix_tup (pv 0) pe_int (fun _ _ => rfl)) (pa_cons (pv 1) pa_nil)))))))) pss_nil)
      (pss_cons (ps_if (pt_cmpR op_eq (pe_ix ix_tup (pv 0) pe_int (fun _ _ => rfl)) pe_str (nomark _)) (pss_one (ps_ret (pe_bm PySem.F.plainAttrs_str PySem.F.slot_str_join PySem.F.type_str_join mt_join pe_str (pa_cons (pe_lc (own := [("step", 3), ("item", 4)]) (g := gTup K 2 (gCons (gName 3) (gCons (gName 4) gNil))) (tt := tYes) rfl nd (pi_enum (by rfl) z_enumerate (pa_cons (pe_ix ix_tup (pv 0) pe_int (fun _ _ => rfl)) pa_nil)) (blkOk_by (N := N_written_tree) (sc := defScope s_written_tree) (by decide +kernel)) (fun _ _ _ _ _ => (pg_tup rfl (pgs_cons (pg_name (i := 3) nd rfl (Or.inl rfl)) (pgs_cons (pg_name (i := 4) nd rfl (Or.inl rfl)) pgs_nil)))) (fun _ _ _ _ _ => pts_nil) (fun _ _ _ _ _ => (pe_call G_part_text (hr.mono (by omega)) rfl m_part_text k_part_text b_part_text .nil pass0 (pa_cons pe_str (pa_cons (pv 3) (pa_cons (pv 4) (pa_cons (pv 1) pa_nil))))))) pa_nil)))) pss_nil)
      (pss_cons (ps_if (pt_cmpR op_eq (pe_ix ix_tup (pv 0) pe_int (fun _ _ => rfl)) pe_str (nomark _)) (pss_cons (ps_setLc (i := 2) (own := [("name", 5), ("inner", 6)]) (g := gTup K 2 (gCons (gName 5) (gCons (gName 6) gNil))) (tt := tYes) rfl nd rfl rfl (sw_true rfl rfl rfl (by decide +kernel)) (pi_list (pe_ix ix_tup (pv 0) pe_int (fun _ _ => rfl))) (blkOk_by (N := N_written_tree) (sc := defScope s_written_tree) (by decide +kernel)) (fun _ _ _ _ _ => (pg_tup rfl (pgs_cons (pg_name (i := 5) nd rfl (Or.inl rfl)) (pgs_cons (pg_name (i := 6) nd rfl (Or.inl rfl)) pgs_nil)))) (fun _ _ _ _ _ => pts_nil) (fun _ _ _ _ _ => (pe_fs (.cons (pe_fmt (pv 5)) (.cons pe_str (.cons (pe_fmt (pe_call G_written_tree (hr.mono (by omega)) rfl m_written_tree k_written_tree b_written_tree .nil pass0 (pa_cons (pv 6) (pa_cons (pv 1) pa_nil)))) .nil))))))
      (pss_one (ps_ret (pe_call G_record_text (hr.mono (by omega)) rfl m_record_text k_record_text b_record_text .nil pass0 (pa_cons (pv 2) (pa_cons (pe_ifExp (pt_cmpR op_isN (pe_ix ix_tup (pv 0) pe_int (fun _ _ => rfl)) pe_non (nomark _)) pe_non (pe_call G_name_of (hr.mono (by omega)) rfl m_name_of k_name_of b_name_of .nil pass0 (pa_cons (pe_ix ix_tup (pv 0) pe_int (fun _ _ => rfl)) (pa_cons (pv 1) pa_nil)))) pa_nil)))))) pss_nil)
      (pss_one (ps_ret (pe_ix ix_tup (pv 0) pe_int (fun _ _ => rfl)))))))), ?_⟩
  have hdne : H d ≠ none := by rw [hd]; simp
  cases t with
  | node h ks =>
  simp only [Ty.size] at h1 h2
  simp only [Ty.deep] at h3
  have hsl := nums_len ks s
  have hwy := hW.hd
  have tl1 : 2100 * Ty.sizes ks ≤ 2100 * 1000 := Nat.mul_le_mul_left _ (by omega)
  have tsum := texts_len (s := s) (fun t m => hW.kid m) (by omega)
  cases hT with
  | @var a n h1x =>
    have hx := off_same.tupS h1x
    refine ⟨_, rfl, a, _, _, _, rfl, rfl, hx, at0, rfl, _, rfl, ifT (w_var (.var n)) ?_⟩
    refine ⟨_, rfl, a, _, _, _, rfl, rfl, hx, rfl, _, rfl, n, d, s, rfl, hd, by omega, fun z H' k e ez => q z H' k e ez⟩
  | @int a h1x =>
    have hx := off_same.tupS h1x
    refine ⟨_, rfl, a, _, _, _, rfl, rfl, hx, at0, rfl, _, rfl, ifF (w_var .int) ?_⟩
    refine ⟨_, rfl, a, _, _, _, rfl, rfl, hx, at0, rfl, _, rfl, ifF (w_fnY .int) ?_⟩
    refine ⟨_, rfl, a, _, _, _, rfl, rfl, hx, at0, rfl, _, rfl, ifF (w_tupY .int) ?_⟩
    refine ⟨_, rfl, a, _, _, _, rfl, rfl, hx, at0, rfl, _, rfl, ifF (w_rec .int) ?_⟩
    exact ⟨_, rfl, a, _, _, _, rfl, rfl, hx, at0, q _ H (Keep.refl _ _) hd (by show tl (Str.ofString "int") = [105, 110, 116]; decide +kernel)⟩
  | @bool a h1x =>
    have hx := off_same.tupS h1x
    refine ⟨_, rfl, a, _, _, _, rfl, rfl, hx, at0, rfl, _, rfl, ifF (w_var .bool) ?_⟩
    refine ⟨_, rfl, a, _, _, _, rfl, rfl, hx, at0, rfl, _, rfl, ifF (w_fnY .bool) ?_⟩
    refine ⟨_, rfl, a, _, _, _, rfl, rfl, hx, at0, rfl, _, rfl, ifF (w_tupY .bool) ?_⟩
    refine ⟨_, rfl, a, _, _, _, rfl, rfl, hx, at0, rfl, _, rfl, ifF (w_rec .bool) ?_⟩
    exact ⟨_, rfl, a, _, _, _, rfl, rfl, hx, at0, q _ H (Keep.refl _ _) hd (by show tl (Str.ofString "bool") = [98, 111, 111, 108]; decide +kernel)⟩
  | @fn a u1 u2 t1 t2 h1x h2x h3x =>
    have hx := off_same.tupS h1x
    simp only [Ty.sizes] at h1 h2 tsum tl1
    simp only [Ty.deeps] at h3
    have g1 := hW.kid (t := t1) (by simp)
    have g2 := hW.kid (t := t2) (by simp)
    refine ⟨_, rfl, a, _, _, _, rfl, rfl, hx, at0, rfl, _, rfl, ifF (w_var .fn) ?_⟩
    refine ⟨_, rfl, a, _, _, _, rfl, rfl, hx, at0, rfl, _, rfl, ifT (w_fnY .fn) ?_⟩
    refine ⟨_, rfl, a, _, _, _, rfl, rfl, hx, rfl, _, rfl, "fun", 0, 1, u1, t1, d, s, lab, rfl, brk_f0, hd, h2x, g1, by omega, by omega, by omega, fun z1 H1 k1 e1 ez1 => ?_⟩
    have b1 := text_len g1 (s := s) (by omega)
    have c1 := at_len 1 ((t1.num s).1.rank, (t1.num s).1.wr)
    have n1 := num_len t1 s
    have lz1 : z1.length ≤ 2200000 := by
      rw [len_tl, ez1]
      simp only at c1
      omega
    have l4 : (Str.ofString " -> ").length = 4 := by decide +kernel
    refine ⟨_, _, rfl, rfl, lb16 (by rw [l4]; omega), ?_⟩
    have hx1 := off_same.tupS (k1.offD.tupS h1x)
    refine ⟨_, rfl, a, _, _, _, rfl, rfl, hx1, rfl, _, rfl, "fun", 1, 0, u2, t2, d, (t1.num s).2, lab, rfl, brk_f1, e1, h3x.same k1.offD, g2, by omega, by omega, by omega, fun z2 H2 k2 e2 ez2 => ?_⟩
    have b2 := text_len g2 (s := (t1.num s).2) (by omega)
    have lz2 : z2.length ≤ 2200000 := by
      rw [len_tl, ez2]
      simp only [at_, Nat.not_lt_zero, if_false]
      omega
    refine ⟨_, _, rfl, rfl, lb16 (by rw [la2, l4]; omega), ?_⟩
    refine q _ H2 (k1.trans k2) e2 ?_
    rw [tl_append, tl_append, ez1, ez2, List.append_assoc]
    rfl
  | @tup a l vs ts h2x h3x h4x h5x =>
    have hx := off_same.tupS h2x
    refine ⟨_, rfl, a, _, _, _, rfl, rfl, hx, at0, rfl, _, rfl, ifF (w_var .tup) ?_⟩
    refine ⟨_, rfl, a, _, _, _, rfl, rfl, hx, at0, rfl, _, rfl, ifF (w_fnY .tup) ?_⟩
    refine ⟨_, rfl, a, _, _, _, rfl, rfl, hx, at0, rfl, _, rfl, ifT (w_tupY .tup) ?_⟩
    refine ⟨rfl, _, rfl, a, _, _, _, rfl, rfl, hx, rfl, l, vs, rfl, off_same.seq h3x, fun D hD => ?_⟩
    refine lc_it (walk_enum (K := K) (a := l) (xs := vs)) (fun i X => ∃ (G : Hp) (zs : List Str), Same G X ∧ G D = none ∧ Keep d H G ∧ G d = some (.dK (numK (Ty.nums (ks.take i) s).2)) ∧ X D = some (.lst (zs.map V.str)) ∧ zs.length = i ∧ zs.map tl = (Ty.nums (ks.take i) s).1.map fun t => at_ 2 (t.rank, t.wr))
      ⟨H, [], same_new hD _, hD, Keep.refl _ _, hd, upd_same, rfl, rfl⟩ (fun i X hi ⟨G, _, g1, _, g3, _⟩ => (g3.offD.trans (off_same.trans g1)).seq h3x) ?_ ?_
    · rintro j x X X' hj ⟨G, zs, g1, g2, g3, g4, g5, g6, g7⟩ ⟨T0, y, u, rfl, hT0, rfl, hy, hvj⟩
      cases hy
      have ST := same_new hT0 (.tup [V.int (j : Nat), u])
      have g1' := g1.trans ST
      have g5' := ST _ _ g5
      have oX : Same (off d H) (off d (upd X T0 (.tup [V.int (j : Nat), u]))) := (g3.same g1').offD
      refine ⟨T0, _, rfl, SqT.of upd_same, rfl, ?_⟩
      refine ⟨_, _, rfl, ⟨_, _, rfl, rfl, ?_⟩⟩
      refine ⟨rfl, ?_⟩
      refine yes_of (ifTt rfl ?_)
      generalize upd X T0 (.tup [V.int (j : Nat), u]) = X1 at *
      have htj : ks[j]? = some (ks[j]'(by omega)) := List.getElem?_eq_getElem (by omega)
      have htm := h5x j u _ hvj htj
      have hmem := List.getElem_mem (by omega : j < ks.length)
      generalize ks[j]'(by omega) = t at *
      have ek := take_snoc htj
      have en := nums_snoc14 t (ks.take j) s
      rw [← ek] at en
      have hsl := nums_len (ks.take j) s
      have hst2 := ysizes_take ks (j + 1)
      rw [ek, ysizes_app] at hst2
      simp only [Ty.sizes] at hst2
      have hsk := ysize_kid hmem
      have hdk := ydeep_kid hmem
      have hks := ylen_sizes ks
      refine ⟨_, rfl, _, rfl, _, rfl, "tuple", j, 2, u, t, d, _, lab, rfl, brk_t _, g1' _ _ g4, htm.same oX, hW.kid hmem, by omega, by omega, by omega, fun z X2 kx hx2 ez => ?_⟩
      obtain ⟨b1, b2, b3, b4, b5, b6, b7⟩ := growD (L := .lst (zs.map V.str ++ [.str z])) g1' g2 g3 hdne (by rw [g4]; simp) g5' kx
      refine ⟨zs.map V.str, b4, sz (by rw [List.length_map]; omega), off D X2, zs ++ [z], b1, b2, b3, ?_, ?_, by simp [g6], ?_⟩
      · rw [off_ne b7.symm, hx2, en]
      · rw [upd_same, List.map_append]
        rfl
      · rw [en, List.map_append, List.map_append, g7]
        simp only [List.map_cons, List.map_nil, ez]
    · rintro X ⟨G, zs, g1, g2, g3, g4, g5, g6, g7⟩
      rw [h4x, List.take_length] at g4 g7
      have hb := at_sum (Ty.nums ks s).1
      rw [nums_size] at hb
      refine ⟨_, D, zs, rfl, rfl, .inl (SqL.of g5), ?_, ?_⟩
      · rw [len_map, g7]
        show _ + zs.length * 3 ≤ _
        omega
      · refine q _ X (g3.same g1) (g1 _ _ g4) ?_
        rw [join_eq, tl_join, g7]
        show joinL [32, 42, 32] _ = sepT (Ty.wrs (Ty.nums ks s).1)
        rw [sepT_join, wrs_map, List.map_map]
        rfl
  | @rcd a l bs vs ls ts m h2x h3x h4x h5x h6x h7x h8x =>
    have hx := off_same.tupS h2x
    refine ⟨_, rfl, a, _, _, _, rfl, rfl, hx, at0, rfl, _, rfl, ifF (w_var (.rcd ls m)) ?_⟩
    refine ⟨_, rfl, a, _, _, _, rfl, rfl, hx, at0, rfl, _, rfl, ifF (w_fnY (.rcd ls m)) ?_⟩
    refine ⟨_, rfl, a, _, _, _, rfl, rfl, hx, at0, rfl, _, rfl, ifF (w_tupY (.rcd ls m)) ?_⟩
    refine ⟨_, rfl, a, _, _, _, rfl, rfl, hx, at0, rfl, _, rfl, ifT (w_rec (.rcd ls m)) ?_⟩
    refine ⟨_, rfl, a, _, _, _, rfl, rfl, hx, rfl, l, rfl, ⟨_, off_same.seq h3x⟩, fun D hD => ?_⟩
    have fitl := hW.fit
    simp only [okHy] at hwy
    have fl8 : ∀ n ∈ ls, (tl n).length ≤ 8 := fun n hn => by rw [← len_tl]; exact (fitl.2.1 n hn).2.1
    have lc : (Str.ofString ": ").length = 2 := by decide +kernel
    have l0 : Str.empty.length = 0 := rfl
    have hks := ylen_sizes ks
    refine lc_list (K := K) (a := l) (xs := bs.map V.ref) (fun i X => ∃ (G : Hp) (zs : List Str), Same G X ∧ G D = none ∧ Keep d H G ∧ G d = some (.dK (numK (Ty.nums (ks.take i) s).2)) ∧ X D = some (.lst (zs.map V.str)) ∧ zs.length = i ∧ zs.map tl = List.zipWith (fun n (t : Ty) => tl n ++ ([58, 32] ++ t.wr)) (ls.take i) (Ty.nums (ks.take i) s).1)
      ⟨H, [], same_new hD _, hD, Keep.refl _ _, hd, upd_same, rfl, rfl⟩ (fun i X hi ⟨G, _, g1, _, g3, _⟩ => (g3.offD.trans (off_same.trans g1)).seq h3x) ?_ ?_
    · rintro j x X hxx ⟨G, zs, g1, g2, g3, g4, g5, g6, g7⟩
      obtain ⟨b, hb1, hb2, rfl⟩ := get_map hxx
      have oX : Same (off d H) (off d X) := (g3.same g1).offD
      have hj := (List.getElem?_eq_some_iff.mp hb2).1
      have hvj : vs[j]? = some (vs[j]'(by omega)) := List.getElem?_eq_getElem (by omega)
      have hnj : ls[j]? = some (ls[j]'(by omega)) := List.getElem?_eq_getElem (by omega)
      have ht := (off_same.tupS (oX.tupS (h7x j b _ _ hb2 hnj hvj)))
      have htj : ks[j]? = some (ks[j]'(by omega)) := List.getElem?_eq_getElem (by omega)
      have htm := h8x j _ _ hvj htj
      have hmem := List.getElem_mem (by omega : j < ks.length)
      have hnm : (ls[j]'(by omega)).length ≤ 8 := by rw [len_tl]; exact fl8 _ (List.getElem_mem _)
      have eln := take_snoc hnj
      generalize ks[j]'(by omega) = t at *
      generalize vs[j]'(by omega) = u at *
      generalize ls[j]'(by omega) = nm at *
      refine ⟨b, _, rfl, ht, rfl, ?_⟩
      refine ⟨_, _, rfl, ⟨_, _, rfl, rfl, ?_⟩⟩
      refine ⟨rfl, ?_⟩
      refine yes_of (ifTt rfl ?_)
      have ek := take_snoc htj
      have en := nums_snoc14 t (ks.take j) s
      rw [← ek] at en
      have hsl := nums_len (ks.take j) s
      have hst2 := ysizes_take ks (j + 1)
      rw [ek, ysizes_app] at hst2
      simp only [Ty.sizes] at hst2
      have hsk := ysize_kid hmem
      have hdk := ydeep_kid hmem
      have gt := hW.kid hmem
      have bl := text_len gt (s := (Ty.nums (ks.take j) s).2) (by omega)
      have bl2 : 2100 * t.size ≤ 2100 * 1000 := Nat.mul_le_mul_left _ (by omega)
      refine ⟨_, rfl, .inl ⟨nm, rfl, sz (by omega), _, rfl, sz (by rw [la2, l0]; omega), _, rfl, sz (by rw [la2, la2, l0, lc]; omega), _, rfl, _, rfl, u, t, d, _, lab, rfl, g1 _ _ g4, htm.same oX, gt, by omega, by omega, by omega, fun z X2 kx hx2 ez => ?_⟩⟩
      have hzl : z.length ≤ 2100000 := by
        rw [len_tl, ez]
        omega
      refine .inl ⟨z, rfl, lb16 (by omega), _, rfl, lb16 (by rw [la2, la2, la2, l0, lc]; omega), ?_⟩
      obtain ⟨b1, b2, b3, b4, b5, b6, b7⟩ := growD (L := .lst (zs.map V.str ++ [.str (Str.empty ++ nm ++ Str.ofString ": " ++ z)])) g1 g2 g3 hdne (by rw [g4]; simp) g5 kx
      refine ⟨zs.map V.str, b4, sz (by rw [List.length_map]; omega), off D X2, zs ++ [Str.empty ++ nm ++ Str.ofString ": " ++ z], b1, b2, b3, ?_, ?_, by simp [g6], ?_⟩
      · rw [off_ne b7.symm, hx2, en]
      · rw [upd_same, List.map_append]
        rfl
      · rw [en, eln, List.map_append, g7, List.zipWith_append (by rw [List.length_take, nums_size, List.length_take]; omega)]
        simp only [List.map_cons, List.map_nil, List.zipWith_cons_cons, List.zipWith_nil_left, tl_append, ez, List.append_assoc]
        rfl
    · rintro X ⟨G, zs, g1, g2, g3, g4, g5, g6, g7⟩
      rw [List.length_map] at g4 g6 g7
      rw [h4x, List.take_length] at g4
      rw [h4x, List.take_length, ← h5x, List.take_length] at g7
      refine gn ?_
      have hxX := off_same.tupS ((g3.same g1).offD.tupS h2x)
      have hd2 := g1 _ _ g4
      have hzb := zip_sum ls (Ty.nums ks s).1 fl8
      have hzl2 : (List.zipWith (fun n (t : Ty) => tl n ++ ([58, 32] ++ t.wr)) ls (Ty.nums ks s).1).length = zs.length := by rw [← g7, List.length_map]
      have hbd : (zs.map (·.length)).sum + zs.length * 2 ≤ 10000000 := by
        rw [len_map, g7, ← hzl2]
        omega
      have fe : flds ls (Ty.wrs (Ty.nums ks s).1) = joinL [44, 32] (zs.map tl) := by
        rw [flds_join _ _ (by rw [wrs_map, List.length_map, nums_size]; exact h5x), g7, wrs_map]
        congr 1
        rw [List.zipWith_map_right]
      have ze : zs = [] ↔ ls = [] := by
        rw [← List.length_eq_zero_iff, ← List.length_eq_zero_iff]
        omega
      cases m with
      | none =>
        refine ⟨_, rfl, _, rfl, a, _, _, _, rfl, rfl, hxX, rfl, rfl, _, rfl, ifT rfl ?_⟩
        refine ⟨D, zs, .non, none, rfl, rfl, SqL.of g5, hbd, (fun z e => by cases e), fun z H' S' ez => ?_⟩
        refine q z H' ((g3.same g1).same S') (S' _ _ hd2) ?_
        rw [ez]
        show _ = 123 :: (flds ls (Ty.wrs (Ty.nums ks s).1) ++ tailT ls none)
        rw [fe]
        rfl
      | some m =>
        refine ⟨_, rfl, _, rfl, a, _, _, _, rfl, rfl, hxX, rfl, rfl, _, rfl, ifF rfl ?_⟩
        refine ⟨_, rfl, a, _, _, _, rfl, rfl, hxX, rfl, _, rfl, m, d, _, rfl, hd2, by omega, fun y H3 k3 e3 ey => ?_⟩
        have hDd : D ≠ d := fun z => by rw [z, hd2] at g5; cases g5
        refine ⟨D, zs, .str y, some y, rfl, rfl, SqL.of (k3 _ _ hDd g5), hbd, (fun z e => ?_), fun z H' S' ez => ?_⟩
        · injection e with e
          have := mkn_len ((Ty.nums ks s).2.idxOf m + 1) _ (Nat.le_refl _)
          have := List.idxOf_le_length (a := m) (l := (Ty.nums ks s).2)
          rw [← e, len_tl, ey, List.length_cons]
          omega
        · refine q z H' (((g3.same g1).trans k3).same S') (S' _ _ e3) ?_
          rw [ez]
          show _ = 123 :: (flds ls (Ty.wrs (Ty.nums ks s).1) ++ tailT ls (some ((Ty.nums ks s).2.idxOf m)))
          rw [fe]
          simp only [ey]
          by_cases c : zs = []
          · rw [if_pos c, ze.mp c]
            rfl
          · rw [if_neg c]
            cases ls with
            | nil => exact absurd (ze.mpr rfl) c
            | cons x r => rfl
theorem ok_tree_text (S : Stands K mg "tree_text" s_tree_text ["tree"]) (H_check_tree : DefOk P w K mg base CX0 9 "check_tree" ["value"] (spCheck K)) (H_written_tree : DefOk P w K mg base CX0 203 "written_tree" ["tree", "numbers"] (spWr K 100)) : DefOk P w K mg base CX0 204 "tree_text" ["tree"] (spTText K) := by
  obtain ⟨f, fd, F, hm, hb⟩ := S
  obtain ⟨f_check_tree, fd_check_tree, G_check_tree, m_check_tree, k_check_tree, b_check_tree⟩ := H_check_tree
  obtain ⟨f_written_tree, fd_written_tree, G_written_tree, m_written_tree, k_written_tree, b_written_tree⟩ := H_written_tree
  refine ⟨f, fd, ?_, hm, F.kp, hb⟩
  have nd := sc_tree_text.nd
  refine F.ok sc_tree_text (fun vs H Q E h => ?_) (fun cdv A outer s0 H vs Q E hr h => ?_)
  · obtain ⟨v, t, lab, rfl, _⟩ := h
    rfl
  obtain ⟨v, t, lab, rfl, hT, hW, q⟩ := h
  refine ⟨_, (pss_cons (ps_expr (pe_call G_check_tree (hr.mono (by decide)) rfl m_check_tree k_check_tree b_check_tree .nil pass0 (pa_cons (pv 0) pa_nil)))
      (pss_one (ps_ret (pe_call G_written_tree (hr.mono (by decide)) rfl m_written_tree k_written_tree b_written_tree .nil pass0 (pa_cons (pv 0) (pa_cons pe_dnewK pa_nil)))))), ?_⟩
  refine ⟨_, rfl, v, t, lab, rfl, hT, hW, fun H1 S1 => ?_⟩
  refine ⟨_, rfl, fun d hd => ?_⟩
  have Sd := same_new hd (.dK [])
  have hdH : H d = none := S1.fr hd
  refine ⟨v, t, d, [], lab, rfl, upd_same, hT.same ((S1.trans Sd).off hdH), hW.gd, hW.sz, by have := hW.sz; simp only [List.length_nil]; omega, hW.dp, fun z H' k e ez => ?_⟩
  exact q z H' (fun b o eb => k b o (fun z => by rw [z, hdH] at eb; cases eb) ((S1.trans Sd) _ _ eb)) ez
end
end Vt


set_option Elab.async false
set_option linter.all false
set_option maxRecDepth 100000
set_option maxHeartbeats 4000000
namespace Vt
open PySem PySem.Spec PyProof.Rows L2
/-! ### a def that wants to know that no text of a value is being made around it -/
structure FnG (P : Program) (w : World) (K : PySem.W.Frag) (mg : Str → Option Value) (base : Heap) (CX : CXT) (k : Nat) (f : Addr) (fd : FuncData) (ps : List Str) (sp : Sp) : Prop where
  size : ∀ vs H Q E, sp vs H Q E → vs.length = ps.length
  go : ∀ (A : Around) (outer : List Env) (s : Shared) (H : Hp) (us : List Value) (vs : List V) (Q : VK) (E : XK) (args : Args), A.guards = some [] → Room k A → Env0 P w K mg base A outer s H →
    BindsTo s fd args (ps.zip us) → Vals vs us → sp vs H Q E → codeAny (model P w) A (.call (.ref f) args) (CR CX outer P w H s Q E) s
section
variable {P : Program} {w : World} {K : PySem.W.Frag} {mg : Str → Option Value} {base : Heap}
theorem fnG {x : Str} {st : Stmt} {f : Addr} {fd : FuncData} {N ps : List Str} {k : Nat} {sp : Sp} (F : Fun K x x st f fd) (S : FnScope N ps (defScope st)) (size : ∀ vs H Q E, sp vs H Q E → vs.length = ps.length)
    (bd : ∀ (cdv : Value) (A : Around) (outer : List Env) (s : Shared) (H : Hp) (vs : List V) (Q : VK) (E : XK), (A.deeper (envOfC x (defScope st) s.heap.objs.size f cdv)).guards = some [] → Room k (A.deeper (envOfC x (defScope st) s.heap.objs.size f cdv)) → sp vs H Q E →
      ∃ t, PSs (cxOf CX0 P w K mg base N x (defScope st) f cdv A outer s H E).nox (defBody st) t ∧ t { nx := fun _ H' => Q .non H', rt := Q } (start N vs) H) : FnG P w K mg base CX0 (k + 1) f fd ps sp := by
  obtain ⟨oc, od, kV, doc, pm, an, cdv, ct, osl, rfl, lk, cdK⟩ := F.ex
  refine ⟨size, fun A outer s H us vs Q E args gd room e0 bnd vals wish => ?_⟩
  have old : ∀ b o, base.get? b = some o → s.heap.get? b = some o := fun b o e => (e0.bs b o e).1
  have inK := e0.mod.kin.keeps old
  have kinds : ∀ y ∈ ps.zip us, (defScope st).names.lookup y.1 = some .local ∨ ((defScope st).names.lookup y.1 = some .cell ∧ ((cellsFrom (s.heap.objs.size + 1) (defScope st).names []).lookup y.1).isSome = true) := by
    intro y hy
    cases S.par y.1 (List.of_mem_zip hy).1 with
    | inl q => exact .inl q
    | inr q => exact .inr ⟨q, PySem.W.cellsFrom_some _ _ _ (.inl q)⟩
  obtain ⟨t, hp, ht⟩ := bd cdv A outer s H vs Q E gd (room.deeper _) wish
  refine codeAny_call_function room.depth (inK _ _ lk) rfl S.co S.gen rfl (PySem.W.codeRec_of inK cdK) (bnd _ _ _ _ (wpAny_newFunctionEnv_cells S.kind kinds fun env henv s1 call => ?_))
  subst henv
  refine ⟨(e0.mod.nolimit.keeps old).keeps call.toInCall.keep, codeAny_func (wpAny_mono (hp.nox.run [] s1 (start N vs) H _ (inv_start S room.hd e0 (size _ _ _ _ wish) vals call) ht) ?_ fun _ _ z => z)⟩
  intro fl s' out
  cases fl with
  | next =>
    obtain ⟨_, H', J, q⟩ := out
    exact ⟨V.non, H', J.os, J.bare, J.base, J.hok, (rfl : RelV V.non Value.none), q⟩
  | ret u =>
    obtain ⟨v, _, H', J, rv, q⟩ := out
    exact ⟨v, H', J.os, J.bare, J.base, J.hok, rv, q⟩
  | brk =>
    obtain ⟨_, _, _, q⟩ := out
    cases q
  | cont =>
    obtain ⟨_, _, _, q⟩ := out
    cases q
end
section
variable {X : Cx} {CX : CXT} {k : Nat} {f : Addr} {fd : FuncData} {ps : List Str} {sp : Sp} {E : XK} {x : Str} {p pos : Pos} {e : Expr} {es : List Expr} {t : TA}
/-- the call of such a def -/
theorem pe_callG (F : FnG X.prog X.w X.K X.mg X.base CX k f fd ps sp) (hgd : X.A.guards = some []) (hr : Room k X.A) (hg : Gl X x) (hm : X.mg x = some (.ref f)) (hk : PySem.W.keepIn X.K (.ref f) = true) (hb : Binds X.K fd ps []) (hx : Passes CX X E)
    (ha : PA X (e :: es) t) (hdb : (x == ("__debug__" : Str)) = false := by decide) (he : starEach (e :: es) X.env = (false, eval e X.env) :: starEach es X.env := by rfl) (hpl : (backTo pos (starEach es X.env)).any (·.1) = false := by rfl) :
    PE X (.Call (.Name x p) (e :: es) [] pos) (tCall sp [] E t) := by
  refine ⟨fun pins s σ H Q I h => wpAny_Call_Name_kw (ld_glob I hg hm (PySem.W.callWith_K (h₀ := X.base) I.ok.mod.kin hk (thn (ha.run pos pins s σ H _ I h) fun us s1 out => ?_) he hpl) hdb)⟩
  obtain ⟨vs, H1, I1, r, q⟩ := out
  rw [List.append_nil] at q
  have b := hb s1 us I1.kIn (by rw [List.append_nil, ← r.length]; exact F.size _ _ _ _ q)
  rw [List.append_nil] at b
  refine ⟨I1.kIn, wpAny_call (codeAny_mono (F.go X.A X.stack s1 H1 us vs Q E ⟨us, []⟩ hgd hr I1.env0 b r q) fun r s' out => ?_)⟩
  match r, out with
  | .error e, z => exact hx pins σ H1 s1 e s' I1 z
  | .ok (.ret u), z => exact I1.after z
  | .ok .next, z => exact z.elim
  | .ok .brk, z => exact z.elim
  | .ok .cont, z => exact z.elim
end
/-! ### the end: the law is called with the script -/
/-- what is tracked of the script: nothing where the module holds it -/
def scr (K : PySem.W.Frag) (a : Addr) (o : Obj) (ns : List Int) : Hp := fun b => if b = a ∧ K.lookup a = none then some (.frz o (.lst (ns.map V.int))) else none
theorem scr_some {K : PySem.W.Frag} {a b : Addr} {o : Obj} {ns : List Int} {u : HO} (h : scr K a o ns b = some u) : b = a ∧ K.lookup a = none ∧ u = .frz o (.lst (ns.map V.int)) := by
  by_cases c : b = a ∧ K.lookup a = none
  · have h' := (if_pos c).symm.trans h
    cases h'
    exact ⟨c.1, c.2, rfl⟩
  · have h' := (if_neg c).symm.trans h
    cases h'
theorem scr_none {K : PySem.W.Frag} {a b : Addr} {o : Obj} {ns : List Int} (h : b ≠ a ∨ K.lookup a ≠ none) : scr K a o ns b = none := if_neg fun ⟨c1, c2⟩ => h.elim (fun z => z c1) fun z => z c2
theorem callG {P : Program} {w : World} {K : PySem.W.Frag} {mg mb : Str → Option Value} {k : Nat} {fa a : Addr} {fd : FuncData} {x : Str} {sp : Sp} {s₁ : Shared} {vs : List Value} {ns : List Int} (KX : K.In s₁.heap) (glob : s₁.heap.Ns mainGlobals mg) (blt : s₁.heap.Ns builtinsNs mb)
    (boot : ∀ x : Str, x ≠ "__name__" → mb x = bootBuiltins x) (lim : s₁.heap.NoLimit) (gens : s₁.gens = #[]) (obj : s₁.heap.get? a = some { cls := .type "list", data := .seq vs.toArray }) (intV : IntsAre vs ns) (len : ns.length ≤ sizeLine) (room : Room k callerA)
    (F : ∀ base : Heap, K.In base → base.Ns mainGlobals mg → FnG P w K mg base CX0 k fa fd [x] sp) (bnd : ∀ (s : Shared) (u : Value), BindsTo s fd ⟨[u], []⟩ [(x, u)])
    (wish : ∀ H : Hp, Only H → SqL K H a (ns.map V.int) → sp [.ref a] H (fun v _ => v = .bl true) fun _ _ _ => False) :
    codeAny (model P w) callerA (.call (.ref fa) ⟨[.ref a], []⟩) (fun r s' => r = .ok (.ret (.bool true)) ∧ OldK s₁.heap s'.heap ∧ s'.os = s₁.os ∧ AllBare s'.gens) s₁ := by
  have numV := vals_ints intV
  have lenV : (ns.map V.int).length ≤ sizeLine := by rw [List.length_map]; exact len
  have getH : ∀ {b : Addr} {u : HO}, scr K a _ ns b = some u → b = a ∧ K.lookup a = none ∧ u = .frz { cls := .type "list", data := .seq vs.toArray } (.lst (ns.map V.int)) := fun h => scr_some h
  have only : Only (scr K a { cls := .type "list", data := .seq vs.toArray } ns) := fun b => by
    cases q : scr K a { cls := .type "list", data := .seq vs.toArray } ns b with
    | none => exact .inl rfl
    | some u => obtain ⟨_, _, e⟩ := getH q; exact .inr ⟨_, _, by rw [e]⟩
  have hok : HOk P w (scr K a { cls := .type "list", data := .seq vs.toArray } ns) s₁.heap := fun b u q => by
    obtain ⟨rfl, _, rfl⟩ := getH q
    exact ⟨obj, lenV, vs, _, numV, obj⟩
  have seq : SqL K (scr K a { cls := .type "list", data := .seq vs.toArray } ns) a (ns.map V.int) := by
    cases q : K.lookup a with
    | none => exact .inl (.inr ⟨_, if_pos ⟨rfl, q⟩⟩)
    | some o =>
      have e := KX a o q
      rw [obj] at e
      cases e
      exact .inr ⟨_, vs.toArray, _, q, rfl, rfl, rfl, by rw [List.size_toArray, ← numV.length]; exact lenV, by simpa using numV⟩
  generalize scr K a { cls := .type "list", data := .seq vs.toArray } ns = H at *
  have free : ∀ {b : Addr} {o : Obj} {es : Array DictEntry} {ep : Nat}, s₁.heap.get? b = some o → o.data = .dict es ep → H b = none := fun {b o es ep} e d => by
    cases q : H b with
    | none => rfl
    | some u =>
      obtain ⟨rfl, _, _⟩ := getH q
      rw [obj] at e
      cases e
      cases (show Data.seq vs.toArray _ = Data.dict es ep from d)
  have spaces : ∀ {b : Addr} {m : Str → Option Value}, s₁.heap.Ns b m → (hidT s₁.heap H).Ns b m := fun {b m} ⟨o, es, ep, e, d, r⟩ => ⟨o, es, ep, hidT_get e (free e d), d, r⟩
  have inB : K.In (hidT s₁.heap H) := fun b o e => hidT_get (KX b o e) (by
    cases q : H b with
    | none => rfl
    | some u =>
      obtain ⟨rfl, z, _⟩ := getH q
      rw [z] at e
      cases e)
  have md : Mod K mg (hidT s₁.heap H) := ⟨inB, spaces glob, ⟨mb, spaces blt, boot⟩, (fun ⟨mc, h1, h2⟩ => ⟨mc, spaces h1, h2⟩) lim⟩
  have e0 : Env0 P w K mg (hidT s₁.heap H) callerA [] s₁ H := ⟨rfl, md, fun b o e => of_hidT e, Nat.le_of_eq (hidT_size _ _), trivial, fun b hb => (nomatch (show b ∈ ([] : List Addr) from hb)), hok, .of_eq gens⟩
  refine codeAny_mono ((F _ inB (spaces glob)).go callerA [] s₁ H [.ref a] [.ref a] _ _ ⟨[.ref a], []⟩ rfl room e0 (bnd s₁ (.ref a)) (.cons rfl .nil) (wish H only seq)) fun r s' out => ?_
  match r, out with
  | .error e, z => exact z.elim
  | .ok .next, z => exact z.elim
  | .ok .brk, z => exact z.elim
  | .ok .cont, z => exact z.elim
  | .ok (.ret u), ⟨v, H', os, bare, un, hok', rv, q⟩ =>
    cases (show v = .bl true from q)
    obtain rfl : u = Value.bool true := rv
    refine ⟨rfl, OldK.of_keep fun b o e => ?_, os, bare⟩
    cases q : H b with
    | none => exact un.keep b o e q (fun z => nomatch (show b ∈ ([] : List Addr) from z)) (by simp)
    | some u =>
      obtain ⟨rfl, _, rfl⟩ := getH q
      have e2 := (hok' b _ (un.frzs b _ _ q)).1
      rw [obj] at e
      cases e
      exact e2
theorem walkG {l : PySem.W.OpenLaw} {n k : Nat} {q : Program} {loose : List Str} {XP : (Str → Option Value) → Heap → Prop} {YP : World → Heap → Prop} {d : DefRec} {K : Params → PySem.W.Frag} {sp : PySem.W.Frag → Sp} {x : Str} (hn : l.most = some n) (hn2 : n ≤ sizeLine) (hdf : d.params.defaults = []) (hr : Room k callerA)
    (hY : ∀ (w : World) (h : Heap), YP w h → (K w.params).In h)
    (F : ∀ (w : World) (mg : Str → Option Value) (fa : Addr) (h : Heap), (K w.params).In h → h.Ns mainGlobals mg → mg d.name = some (.ref fa) →
      ∃ fd : FuncData, (∀ (s : Shared) (u : Value), BindsTo s fd ⟨[u], []⟩ [(x, u)]) ∧ ∀ base : Heap, (K w.params).In base → base.Ns mainGlobals mg → FnG l.prog w (K w.params) mg base CX0 k fa fd [x] (sp (K w.params)))
    (hsp : ∀ (K : PySem.W.Frag) (H : Hp) (a : Addr) (ns : List Int), ns.length ≤ n → Only H → SqL K H a (ns.map V.int) → sp K [.ref a] H (fun v _ => v = .bl true) fun _ _ _ => False) :
    PySem.W.WalkO q loose XP YP l.row.toRowW d [] (fun f vs => PySem.call f vs) :=
  Att.attach_call hn hdf fun w s₀ s₁ mg mb fa o pm cd doc a vs ns G Y ho hd hcd hmg hobj hints hlen hg =>
    (fun ⟨fd, hb, hF⟩ => callG (hY w _ Y) G.T.g G.T.b G.T.builtins G.T.nolimit hg hobj hints (Nat.le_trans hlen hn2) hr hF hb fun H hO hS => hsp _ H a ns hlen hO hS) (F w mg fa _ (hY w _ Y) G.T.g hmg)
end Vt


set_option Elab.async false
set_option linter.all false
set_option maxRecDepth 100000
set_option maxHeartbeats 4000000
namespace Vt
open PySem PySem.Spec PyProof.Rows L2
/-! ### a try whose first clause, one with a name, always takes the exception; other clauses stand behind it -/
/-- behind the suite the clause's name means nothing -/
def bare (i : Nat) (D : Ends) : Ends := { nx := fun (σ : L2.St) H => D.nx (σ.set i none) H, rt := D.rt, bk := fun (σ : L2.St) H => D.bk (σ.set i none) H, ct := fun (σ : L2.St) H => D.ct (σ.set i none) H }
def wFirst (K : PySem.W.Frag) (c : Value) (i : Nat) (ts : Addr → Value → Option Addr → TS) (D : Ends) : WX := fun (cls : Value) (d : Option Addr) (σ : L2.St) (H : Hp) =>
  PySem.W.exmOne K cls c = some true ∧ ∀ a, H a = none → ts a cls d (bare i D) (σ.set i (some (.ref a))) H
section
variable {X : Cx} {x n : Str} {c : Value} {i : Nat} {body suite : List Stmt} {b₀ : Stmt} {np pos pos' : Pos} {tb : WX → TS} {ts : Addr → Value → Option Addr → TS} {hds : List ExceptHandler}
theorem ps_try_first (stk : X.stack = X.env :: X.outer) (fr : X.env.frame = some X.env.locals) (nd : X.N.Nodup) (hi : X.N[i]? = some n) (loc : X.env.kindOf n = some .local) (cl : Names X x c)
    (hb : ∀ (W : WX) (pn : List (Addr × Obj)) (xe : Value → Shared → Prop), Takes (X.tr pn xe) W → PassesOwn (model X.prog X.w) X.A X.env xe → PSs (X.tr pn xe) body (tb W))
    (su : ∀ (a : Addr) (oe : Obj) (cls : Value) (d : Option Addr) (pn : List (Addr × Obj)), Zc cls d oe → (∃ vs, oe.data = .fields vs) → PSs (X.suite a ((a, oe) :: pn)) (b₀ :: suite) (ts a cls d)) :
    PS X (.Try body (.ExceptHandler (some (.Name x np)) (some n) (b₀ :: suite) pos' :: hds) [] [] pos) (fun D σ H => tb (wFirst X.K c i ts D) D σ H) := by
  refine ⟨fun pins s σ H D I h => wpAny_Try_except ?_⟩
  have ok := I.ok
  have frames : X.A.frames = some (X.env :: X.outer) := by rw [ok.frames, stk]
  refine wpAny_mono ((hb (wFirst X.K c i ts D) (X.pn ++ pins) (fun e s₁ => wpAny (model X.prog X.w) X.A (noteFrame e X.env) (fun _ s₂ => wpAny (model X.prog X.w) X.A (setFlight e none) (fun _ s₃ => wpAny (model X.prog X.w) X.A (handleBy e X.env (.ExceptHandler (some (.Name x np)) (some n) (b₀ :: suite) pos' :: hds)) (SP X pins D) X.xe s₃) X.xe s₂) X.xe s₁)
    (fun u s' caught => ?_) PassesOwn.looking).run [] s σ H D (I.toTry _) h) (fun f s1 out => ?_) fun _ _ z => z
  · obtain ⟨a, B, sI, pins', σ', H', cls, d, rfl, J0, nb, up, sky, na, os, ag, takes, go⟩ := caught
    have J := J0.ofTry ok
    rw [stk] at sky
    refine Sky.land Zc.steady frames fr sky fun h3 fl3 up3 => ?_
    have J3 : Inv X pins σ' H' { s' with heap := h3 } := J.landed nb fl3.1 (up.trans up3) os ag
    obtain ⟨o3, vs3, at3, z3, dat3⟩ := fl3.there
    have out : a ∉ frs (X.env :: X.outer) := fun hm => by
      obtain ⟨_, o', e', nof⟩ := fl3.2.2.1.mem hm
      rw [at3] at e'
      cases e'
      exact nof _ dat3
    have outL : a ≠ X.env.locals := fun z => out (List.mem_filterMap.mpr ⟨X.env, List.mem_cons_self, by rw [fr, z]⟩)
    have outF : a ∉ X.fs := fun hm => (fun ⟨e, he, q⟩ => out (List.mem_filterMap.mpr ⟨e, List.mem_cons_of_mem _ he, q⟩)) (List.mem_filterMap.mp hm)
    have S3 := J3.suite at3 dat3 na outL outF
    have kind : PySem.W.Looks (model X.prog X.w) h3 (typeOf (.ref a)) cls := fun A Q E s k q => wpAny_typeOf_ref (k _ _ at3) (by rw [z3.1]; exact q)
    have fits := PySem.W.exm_one (M := model X.prog X.w) J3.kIn kind takes
    have name : ∀ {Q E : Value → Shared → Prop}, Q c { s' with heap := h3 } → wpAny (model X.prog X.w) (X.A.mark (some (.ref a))) (eval (.Name x np) X.env) Q E { s' with heap := h3 } := fun {Q E} q => by
      rcases cl with ⟨hg, hd, hm | ⟨hm, hv, hnn⟩⟩
      · exact ld_glob (X := X.suite a ((a, o3) :: (X.pn ++ pins))) S3 hg hm q hd
      · exact ld_blt (X := X.suite a ((a, o3) :: (X.pn ++ pins))) S3 hg hm hv q hnn hd
    refine wpAny_handleBy_cons (codeAny_handlers_test (name (fits.here (codeAny_handlers_suite_as ?_)))) (fun q => nomatch q)
    refine HandSPX.lands_againZ fl3 fun h4 fl4 up4 => ?_
    have J4 : Inv X pins σ' H' { s' with heap := h4 } := J.landed nb fl4.1 ((up.trans up3).trans up4) os ag
    obtain ⟨o4, vs4, at4, z4, dat4⟩ := fl4.there
    refine store_ok (X := X.suite a ((a, o4) :: (X.pn ++ pins))) (v := .ref a) (J4.suite at4 dat4 na outL outF) nd hi (.inl loc) rfl (fun s5 S5 => ?_) (.inr loc)
    refine wpAny_mono ((su a o4 cls d (X.pn ++ pins) z4 ⟨_, dat4⟩).run [] s5 _ H' _ S5 (go a na)) (fun f s6 out6 => ?_) fun _ _ z => z.elim
    match f, out6 with
    | .next, ⟨_, _, S6, q6⟩ => exact gone_ok (S6.unsuite ok) nd hi loc fun s7 J7 => ⟨_, _, J7, q6⟩
    | .brk, ⟨_, _, S6, q6⟩ => exact gone_ok (S6.unsuite ok) nd hi loc fun s7 J7 => ⟨_, _, J7, q6⟩
    | .cont, ⟨_, _, S6, q6⟩ => exact gone_ok (S6.unsuite ok) nd hi loc fun s7 J7 => ⟨_, _, J7, q6⟩
    | .ret u, ⟨_, _, _, S6, r6, q6⟩ => exact gone_ok (S6.unsuite ok) nd hi loc fun s7 J7 => ⟨_, _, _, J7, r6, q6⟩
  · match f, out with
    | .next, ⟨_, _, J, q⟩ => exact wpAny_execs_nil ⟨_, _, J.ofTry ok, q⟩
    | .brk, ⟨_, _, J, q⟩ => exact ⟨_, _, J.ofTry ok, q⟩
    | .cont, ⟨_, _, J, q⟩ => exact ⟨_, _, J.ofTry ok, q⟩
    | .ret u, ⟨_, _, _, J, r, q⟩ => exact ⟨_, _, _, J.ofTry ok, r, q⟩
end
end Vt


set_option Elab.async false
set_option linter.all false
set_option maxRecDepth 100000
set_option maxHeartbeats 4000000
namespace Vt
open PySem PySem.Spec PyProof.Rows L2
open PySem.SeqAt
/-! ### a tuple is no dict -/
theorem tup_declines_dict (l b : Addr) (its : Array Value) (n : Nat) (dd dd2 : Option Addr) (sl sl2 : Array (Option Value)) (es : Array DictEntry) (ep : Nat) :
    Meets (Builtin.«tuple.__eq__» ⟨[.ref l, .ref b], []⟩) (fun _ R s => s.heap.get? l = some { cls := .type "tuple", dict := dd, data := .seq its n, slots := sl } ∧ s.heap.get? b = some { cls := .type "dict", dict := dd2, data := .dict es ep, slots := sl2 } ∧ R (.ok (.ret .notImplemented)) s) :=
  .of_wp fun prog w A R s h => by
    obtain ⟨hp, g, d, tk, os⟩ := s
    obtain ⟨hl, hb, h⟩ := h
    have f1 := PySem.F.sub_dict_tuple
    wp_walk using wpAny_loadPart' hl, wpAny_loadPart' hb
    exact ⟨_, rfl, h⟩
theorem dict_declines_tup (l b : Addr) (its : Array Value) (n : Nat) (dd dd2 : Option Addr) (sl sl2 : Array (Option Value)) (es : Array DictEntry) (ep : Nat) :
    Meets (Builtin.«dict.__eq__» ⟨[.ref b, .ref l], []⟩) (fun _ R s => s.heap.get? l = some { cls := .type "tuple", dict := dd, data := .seq its n, slots := sl } ∧ s.heap.get? b = some { cls := .type "dict", dict := dd2, data := .dict es ep, slots := sl2 } ∧ R (.ok (.ret .notImplemented)) s) :=
  .of_wp fun prog w A R s h => by
    obtain ⟨hp, g, d, tk, os⟩ := s
    obtain ⟨hl, hb, h⟩ := h
    have f1 := PySem.F.sub_tuple_dict
    wp_walk using wpAny_loadPart' hl, wpAny_loadPart' hb
    exact ⟨_, rfl, h⟩
section
variable {A : Around} {s : Shared}
theorem eq_tup_dict {l b : Addr} {its : Array Value} {o2 : Obj} {es : Array DictEntry} {ep : Nat} (hl : s.heap.IsTuple l its) (hb : s.heap.get? b = some o2) (hc : o2.cls = .type "dict") (hd : o2.data = .dict es ep) (hu : A.units < cLine) : EqAt A s (.ref l) (.ref b) false := by
  obtain ⟨⟨cls, dd, data, sl⟩, ho, k1, n, k2⟩ := id hl
  obtain ⟨cls2, dd2, data2, sl2⟩ := o2
  simp only at k1 k2 hc hd
  subst k1 k2 hc hd
  have ne : l ≠ b := fun e => by
    rw [e, hb] at ho
    exact absurd (Obj.mk.inj (Option.some.inj ho)).1 (by simp)
  refine .of_refs ne fun prog w E Q h => ?_
  refine rc_eq_decline_or (k := false) ⟨_, ho, rfl⟩ ⟨_, hb, rfl⟩ (by decide) PySem.F.sub_dict_tuple PySem.F.slot_tuple_eq PySem.F.slot_dict_eq_refl (fun _ hq => ?_) (fun _ hq => ?_) (fun _ hq => wpAny_isSame_ref_other' ne ho hb (by simp) hq) (.inr hu) h
  · exact call_meets PySem.F.slot_tuple_eq ⟨_, ho, rfl⟩ PySem.F.entry_tuple_eq (PySem.F.args_tuple_eq_2 _ _) (tup_declines_dict l b its n dd dd2 sl sl2 es ep) ⟨ho, hb, hq⟩
  · exact call_meets PySem.F.slot_dict_eq_refl ⟨_, hb, rfl⟩ PySem.F.entry_dict_eq (PySem.F.args_dict_eq_2 _ _) (dict_declines_tup l b its n dd dd2 sl sl2 es ep) ⟨ho, hb, hq⟩
end
/-! ### values as they are told of: data, and the dict that is empty -/
def Dq (K : PySem.W.Frag) (H : Hp) (v : V) (d : PyData) : Prop := Dp K H v d ∨ ∃ a, v = .ref a ∧ H a = some (.dK []) ∧ d = .dict []
mutual
theorem noDict {K : PySem.W.Frag} {H : Hp} : ∀ {v : V} {d : PyData}, Dp K H v d → d.hasDict = false
  | _, _, .non => rfl
  | _, _, .bl _ => rfl
  | _, _, .int _ => rfl
  | _, _, .str _ => rfl
  | _, _, .lst _ h => by simp only [PyData.hasDict]; exact noDicts h
  | _, _, .tup _ h => by simp only [PyData.hasDict]; exact noDicts h
theorem noDicts {K : PySem.W.Frag} {H : Hp} : ∀ {vs : List V} {ds : List PyData}, DpAll K H vs ds → PyData.hasDictAll ds = false
  | _, _, .nil => by simp only [PyData.hasDictAll]
  | _, _, .cons h1 h2 => by simp only [PyData.hasDictAll, noDict h1, noDicts h2, Bool.or_false]
end
section
variable {X : Cx} {pins : List (Addr × Obj)} {σ : L2.St} {H : Hp} {s : Shared}
theorem dk_nil {P : Program} {w : World} {h : Heap} {a : Addr} (x : ObjOk P w H h a (.dK [])) : a ≠ sysModules ∧ ∃ o es ep, h.get? a = some o ∧ o.cls = .type "dict" ∧ o.data = .dict es ep ∧ es.toList = [] := by
  obtain ⟨_, ne, vs, kv, o, es, ep, e, ex, d, _, l, _⟩ := x
  cases kv
  refine ⟨fun q => by rw [q] at ne; simp at ne, o, es, ep, e, ex.1, d, ?_⟩
  generalize es.toList = ls at l
  cases l
  rfl
theorem Dq.reads (I : Inv X pins σ H s) {d : PyData} {v : V} {u : Value} (h : Dq X.K H v d) (r : RelV v u) : ∃ as, Reads s.heap u d as ∧ (d.hasDict = true → sysModules ∉ as) := by
  rcases h with h | ⟨a, rfl, ha, rfl⟩
  · obtain ⟨as, q⟩ := Dp.reads I d v u h r
    exact ⟨as, q, fun z => by rw [noDict h] at z; cases z⟩
  · cases r
    obtain ⟨ne, o, es, ep, e, c, dt, l⟩ := dk_nil (I.hok a _ ha)
    have q : Reads s.heap (.ref a) (.dict []) (a :: [] ++ []) := .dict e c dt (by rw [l]; exact .nil) (by rw [l]; exact .nil)
    exact ⟨_, q, fun _ z => by simp at z; exact ne z.symm⟩
/-- repr(v), where no text is under way -/
def rRepr (K : PySem.W.Frag) : List V → Hp → VK → Prop := fun xs H Q => ∃ v d, xs = [v] ∧ Dq K H v d ∧ d.showable = true ∧ d.depth ≤ 60 ∧ d.shown.length ≤ sizeLine ∧ Q (.str d.shown) H
theorem call_reprG (gd : X.A.guards = some []) (hu : X.A.units + 64 < cLine) : CallR X (.builtin "repr") (rRepr X.K) := by
  intro pins s σ H xs us Q I r h
  obtain ⟨v, d, rfl, hd, sh, dp, sz, q⟩ := h
  obtain ⟨u, rfl, rv⟩ := vals1 r
  obtain ⟨as, rd, nm⟩ := Dq.reads I hd rv
  have at_ : ∀ (h' : Heap) (t tk : Tok), (∀ b o, s.heap.get? b = some o → h'.get? b = some o) → EP X pins σ Q (.str d.shown t) { s with heap := h', toks := tk } := fun h' t tk k => ⟨.str d.shown, H, I.kept (t' := tk) k, ⟨t, rfl⟩, q⟩
  cases rd with
  | none => exact PySem.P.repr_of_none (at_ s.heap _ _ fun _ _ e => e)
  | bool b => exact PySem.P.repr_of_bool (at_ s.heap _ _ fun _ _ e => e)
  | int i t => exact PySem.P.repr_of_int (of_decide_eq_true sh) (at_ s.heap _ _ fun _ _ e => e)
  | str x t => exact PySem.P.repr_of_str (at_ s.heap _ _ fun _ _ e => e) sz
  | list h1 h2 h3 h4 => exact repr_of_reads' (.list h1 h2 h3 h4) sh nm gd (by omega) (fun _ _ e => e) at_ sz
  | tuple h1 h2 h3 h4 => exact repr_of_reads' (.tuple h1 h2 h3 h4) sh nm gd (by omega) (fun _ _ e => e) at_ sz
  | dict h1 h2 h3 h4 h5 => exact repr_of_reads' (.dict h1 h2 h3 h4 h5) sh nm gd (by omega) (fun _ _ e => e) at_ sz
theorem vals_mem {xs : List V} {us : List Value} {y : Value} (r : Vals xs us) : y ∈ us → ∃ v ∈ xs, RelV v y := by
  induction r with
  | nil => exact fun h => nomatch h
  | cons r1 _ ih =>
    intro h
    rcases List.mem_cons.mp h with e | h
    · exact ⟨_, List.mem_cons_self, by rw [e]; exact r1⟩
    · obtain ⟨v, hv, r⟩ := ih h
      exact ⟨v, List.mem_cons_of_mem _ hv, r⟩
/-- x not in l, l a list: of data; x the empty dict: of tuples -/
def rNotInQ (K : PySem.W.Frag) : R2 := fun x y H Q => rNotInD K x y H Q ∨
  ∃ (a l : Addr) (xs : List V), x = .ref a ∧ y = .ref l ∧ H a = some (.dK []) ∧ SqL K H l xs ∧ (∀ v ∈ xs, ∃ (b : Addr) (ts : List V), v = .ref b ∧ SqT K H b ts) ∧ Q (.bl true) H
theorem op_notInQ (hu : X.A.units + 65 < cLine) : OpR X (compareOp .NotIn) (rNotInQ X.K) := by
  intro pins s σ H x y v u Q I rx ry h
  rcases h with h | ⟨a, l, xs, rfl, rfl, ha, hl, hx, q⟩
  · exact op_notInD hu pins s σ H x y v u Q I rx ry h
  · cases rx
    cases ry
    obtain ⟨ne, o, es, ep, e, c, dt, _⟩ := dk_nil (I.hok a _ ha)
    obtain ⟨its, rv, hls, _⟩ := I.list hl
    refine notIn_listAt (fun _ => false) hls.isList (fun y hy => ?_) ⟨.bl true, H, I, by show Value.bool _ = Value.bool _; simp, q⟩
    obtain ⟨v, hv, r⟩ := vals_mem rv (show y ∈ its by simpa using hy)
    obtain ⟨b, ts, rfl, ht⟩ := hx v hv
    cases r
    obtain ⟨its2, _, hts, _⟩ := I.tuple ht
    exact eq_tup_dict hts e c dt (by show X.A.units + 1 < cLine; omega)
end
end Vt


set_option Elab.async false
set_option linter.all false
set_option maxRecDepth 100000
set_option maxHeartbeats 4000000
namespace Vt
open PySem PySem.Spec PyProof.Rows L2
/-! ### trees as data, their texts as data -/
theorem tf_le : ∀ (ts : List Str) (k : Nat) (acc : Str), (textFrom k acc ts).length ≤ acc.length + piled ts
  | [], k, acc => Nat.le_refl _
  | t :: r, k, acc => by
    have h := tf_le r (k + 1) (acc ++ (if k > 0 then ", " else "" : String) ++ t)
    have e : (acc ++ (if k > 0 then ", " else "" : String) ++ t).length ≤ acc.length + 2 + t.length := by
      rw [strLen_append, strLen_append]
      have : ((if k > 0 then ", " else "" : String) : Str).length ≤ 2 := by split <;> decide +kernel
      omega
    rw [piled_cons]
    show (textFrom (k + 1) _ r).length ≤ _
    omega
theorem list_text (ts : List Str) : (listText ts).length ≤ piled ts + 2 := by
  have h := tf_le ts 0 "["
  have e1 : ((("[" : String) : Str)).length = 1 := rfl
  have e2 : ((("]" : String) : Str)).length = 1 := rfl
  unfold listText
  rw [strLen_append, e2]
  omega
theorem name_text {n : Str} (h : isName n) : (reprText n).length ≤ 82 := by
  have := StrLaws.reprText_len n fun c hc => by
    have := h.2.2 c hc
    omega
  have := h.2.1
  omega
/-- a text of at most this many signs, so deep at most -/
structure Tx (d : PyData) (k m : Nat) : Prop where
  sh : d.showable = true
  dp : d.depth ≤ m
  sz : d.shown.length ≤ k
  lay : d.canLay0 = true
theorem Tx.name {n : Str} (h : isName n) : Tx (.str n) 82 0 := ⟨rfl, Nat.le_refl _, name_text h, by simp only [PyData.canLay0]; exact h.ok⟩
/-- many of them: all together, with two signs more for each -/
structure Txs (ds : List PyData) (k m : Nat) : Prop where
  sh : PyData.showableAll ds = true
  dp : PyData.depthAll ds ≤ m
  sz : piled (PyData.shownAll ds) ≤ k
  lay : PyData.canLayAll0 ds = true
theorem Txs.nil {m : Nat} : Txs [] 0 m := ⟨by simp [PyData.showableAll], by simp [PyData.depthAll], by simp [PyData.shownAll, piled], by simp [PyData.canLayAll0]⟩
theorem Txs.cons {d : PyData} {ds : List PyData} {k m k' : Nat} (a : Tx d k m) (b : Txs ds k' m) : Txs (d :: ds) (k + 2 + k') m :=
  ⟨by simp only [PyData.showableAll, a.sh, b.sh, Bool.and_self], by simp only [PyData.depthAll]; have := a.dp; have := b.dp; omega, by simp only [PyData.shownAll, piled_cons]; have := a.sz; have := b.sz; omega, by simp only [PyData.canLayAll0, a.lay, b.lay, Bool.and_self]⟩
theorem Tx.cons {d : PyData} {ds : List PyData} {k m k' : Nat} (a : Tx d k m) (b : Txs ds k' m) : Txs (d :: ds) (k + 2 + k') m := Txs.cons a b
theorem Tx.mono {d : PyData} {k m k' m' : Nat} (a : Tx d k m) (h : k ≤ k') (h2 : m ≤ m') : Tx d k' m' := ⟨a.sh, Nat.le_trans a.dp h2, Nat.le_trans a.sz h, a.lay⟩
theorem Txs.tup {ds : List PyData} {k m : Nat} (a : Txs ds k m) : Tx (.tuple ds) (k + 2) (m + 1) :=
  ⟨by simp only [PyData.showable]; exact a.sh, by simp only [PyData.depth]; have := a.dp; omega, by simp only [PyData.shown]; exact Nat.le_trans (fmt_text _) (Nat.add_le_add_right a.sz 2), by simp only [PyData.canLay0]; exact a.lay⟩
theorem Txs.lst {ds : List PyData} {k m : Nat} (a : Txs ds k m) : Tx (.list ds) (k + 2) (m + 1) :=
  ⟨by simp only [PyData.showable]; exact a.sh, by simp only [PyData.depth]; have := a.dp; omega, by simp only [PyData.shown]; exact Nat.le_trans (list_text _) (Nat.add_le_add_right a.sz 2), by simp only [PyData.canLay0]; exact a.lay⟩
theorem tx_word (w : Str) (h : (reprText w).length ≤ 10 ∧ PyData.strOk w = true) {m : Nat} : Tx (.str w) 10 m := ⟨rfl, Nat.zero_le _, h.1, by simp only [PyData.canLay0]; exact h.2⟩
theorem tx_int {k : Int} (h : -(10 ^ 30) ≤ k ∧ k ≤ 10 ^ 30) {m : Nat} : Tx (.int k) 40 m := by
  have a : k.natAbs < 10 ^ 31 := by omega
  refine ⟨decide_eq_true ?_, Nat.zero_le _, ?_, by simp only [PyData.canLay0]⟩
  · have b : k.natAbs < 2 ^ 110 := Nat.lt_of_lt_of_le a (by decide)
    by_cases z : k.natAbs = 0
    · rw [z]; decide
    · have := (Nat.log2_lt z).mpr b
      omega
  · have := int_text_length_le10 (k := 31) (by decide) a
    simp only [PyData.shown]
    rw [show ((toString k : String) : Str).length = (toString k : String).length from PySem.ofString_length _]
    omega
theorem tx_small {k : Int} (h : 0 ≤ k ∧ k < 10) {m : Nat} : Tx (.int k) 40 m := tx_int (by omega)
def pairs : List Str → List PyData → List PyData
  | n :: ns, d :: ds => .tuple [.str n, d] :: pairs ns ds
  | _, _ => []
def tailD : Option Nat → PyData
  | none => .none
  | some m => .int (m : Nat)
def Hy.form : Hy → List PyData → PyData
  | .var n, _ => .tuple [.str "var", .int (n : Nat)]
  | .int, _ => .tuple [.str "int"]
  | .bool, _ => .tuple [.str "bool"]
  | .fn, ds => .tuple (.str "fun" :: ds)
  | .tup, ds => .tuple [.str "tuple", .list ds]
  | .rcd ls m, ds => .tuple [.str "record", .list (pairs ls ds), tailD m]
mutual
def Ty.data : Ty → PyData
  | .node h ks => h.form (Ty.datas ks)
def Ty.datas : List Ty → List PyData
  | [] => []
  | t :: r => t.data :: Ty.datas r
end
theorem ydatas_dp {K : PySem.W.Frag} {H : Hp} : ∀ {xs : List V} {ts : List Ty}, xs.length = ts.length → (∀ (i : Nat) (v : V) (t : Ty), xs[i]? = some v → ts[i]? = some t → Dp K H v t.data) → DpAll K H xs (Ty.datas ts)
  | [], [], _, _ => .nil
  | [], t :: ts, h, _ => by simp at h
  | x :: xs, [], h, _ => by simp at h
  | x :: xs, t :: ts, h, f => .cons (f 0 x t rfl rfl) (ydatas_dp (by simpa using h) fun i v u a b => f (i + 1) v u (by simpa using a) (by simpa using b))
theorem ypairs_dp {K : PySem.W.Frag} {H : Hp} : ∀ {bs : List Addr} {ls : List Str} {us : List V} {ts : List Ty}, bs.length = ts.length → ls.length = ts.length → us.length = ts.length → (∀ (i : Nat) (b : Addr) (n : Str) (u : V), bs[i]? = some b → ls[i]? = some n → us[i]? = some u → SqT K H b [.str n, u]) →
    (∀ (i : Nat) (u : V) (t : Ty), us[i]? = some u → ts[i]? = some t → Dp K H u t.data) → DpAll K H (bs.map V.ref) (pairs ls (Ty.datas ts))
  | [], [], [], [], _, _, _, _, _ => .nil
  | b :: bs, n :: ls, u :: us, t :: ts, h1, h2, h3, f, g => .cons (.tup (f 0 b n u rfl rfl rfl) (.cons (.str n) (.cons (g 0 u t rfl rfl) .nil)))
      (ypairs_dp (by simpa using h1) (by simpa using h2) (by simpa using h3) (fun i b' n' u' a1 a2 a3 => f (i + 1) b' n' u' (by simpa using a1) (by simpa using a2) (by simpa using a3)) fun i u' t' a1 a2 => g (i + 1) u' t' (by simpa using a1) (by simpa using a2))
  | [], _ :: _, _, [], _, h, _, _, _ => by simp at h
  | [], _, _, _ :: _, h, _, _, _, _ => by simp at h
  | _ :: _, _, _, [], h, _, _, _, _ => by simp at h
  | _ :: _, [], _, _ :: _, _, h, _, _, _ => by simp at h
  | _ :: _, _ :: _, [], _ :: _, _, _, h, _, _ => by simp at h
  | [], [], _ :: _, [], _, _, h, _, _ => by simp at h
theorem tail_dp {K : PySem.W.Frag} {H : Hp} (m : Option Nat) : Dp K H (tailV m) (tailD m) := by
  cases m with
  | none => exact .non
  | some m => exact .int _
theorem Tr.dp {K : PySem.W.Frag} {H : Hp} {v : V} {t : Ty} (h : Tr K H v t) : Dp K H v t.data := by
  induction h with
  | var h => exact .tup h (.cons (.str _) (.cons (.int _) .nil))
  | int h => exact .tup h (.cons (.str _) .nil)
  | bool h => exact .tup h (.cons (.str _) .nil)
  | fn h _ _ i j => exact .tup h (.cons (.str _) (.cons i (.cons j .nil)))
  | tup h h2 l1 _ i => exact .tup h (.cons (.str _) (.cons (.lst h2 (ydatas_dp l1 i)) .nil))
  | rcd h h2 l1 l2 l3 f _ i => exact .tup h (.cons (.str _) (.cons (.lst h2 (ypairs_dp l1 l2 l3 f i)) (.cons (tail_dp _) .nil)))
mutual
theorem eqv_self : ∀ d : PyData, d.canLay0 = true → PyData.eqv d d = true
  | .none, _ => by simp only [PyData.eqv]
  | .bool b, _ => by simp only [PyData.eqv, beq_self_eq_true]
  | .int i, _ => by simp only [PyData.eqv, beq_self_eq_true]
  | .str x, _ => by simp only [PyData.eqv, beq_self_eq_true]
  | .list xs, h => by simp only [PyData.eqv]; exact eqvs_self xs (by simpa only [PyData.canLay0] using h)
  | .tuple xs, h => by simp only [PyData.eqv]; exact eqvs_self xs (by simpa only [PyData.canLay0] using h)
  | .dict _, h => by simp [PyData.canLay0] at h
theorem eqvs_self : ∀ ds : List PyData, PyData.canLayAll0 ds = true → PyData.eqvAll ds ds = true
  | [], _ => by simp only [PyData.eqvAll]
  | d :: r, h => by
    simp only [PyData.canLayAll0, Bool.and_eq_true] at h
    simp only [PyData.eqvAll, eqv_self d h.1, eqvs_self r h.2, Bool.and_self]
end
/-! ### trees of the law: small, and the names of their fields are names -/
structure Ds (t : Ty) : Prop where
  sz : t.size ≤ 1000
  dd : t.dd ≤ 56
  dp : t.deep ≤ 90
def HyN : Hy → Prop
  | .var n => n ≤ 999999
  | .rcd ls m => (∀ l ∈ ls, isName l) ∧ ∀ k, m = some k → k ≤ 999999
  | _ => True
inductive Nm : Ty → Prop
  | mk {h : Hy} {ks : List Ty} : okHy h ks.length → HyN h → (∀ t ∈ ks, Nm t) → Nm (.node h ks)
theorem Nm.hd {h : Hy} {ks : List Ty} : Nm (.node h ks) → okHy h ks.length
  | .mk a _ _ => a
theorem Nm.nm {h : Hy} {ks : List Ty} : Nm (.node h ks) → HyN h
  | .mk _ a _ => a
theorem Nm.kid {h : Hy} {ks : List Ty} {t : Ty} (m : t ∈ ks) : Nm (.node h ks) → Nm t
  | .mk _ _ f => f t m
theorem Nm.wy {t : Ty} (g : Nm t) : Wy t := by
  induction g with
  | mk a _ _ ih => exact .mk a ih
theorem ydd_kid {ks : List Ty} {t : Ty} (h : t ∈ ks) : t.dd ≤ Ty.dds ks := by
  induction ks with
  | nil => cases h
  | cons u r ih =>
    simp only [Ty.dds]
    rcases List.mem_cons.mp h with rfl | h
    · omega
    · have := ih h
      omega
theorem tx_nat {k : Nat} (h : k ≤ 999999) {m : Nat} : Tx (.int (k : Nat)) 40 m := tx_int (by omega)
theorem tx_tail {o : Option Nat} (h : ∀ k, o = some k → k ≤ 999999) {m : Nat} : Tx (tailD o) 40 m := by
  cases o with
  | none => exact ⟨rfl, Nat.zero_le _, by decide +kernel, by simp only [tailD, PyData.canLay0]⟩
  | some k => exact tx_nat (h k rfl)
theorem ydatas_tx {m : Nat} : ∀ {ts : List Ty}, (∀ t ∈ ts, Tx t.data (400 * t.size - 200) m) → Txs (Ty.datas ts) (400 * Ty.sizes ts) m
  | [], _ => Txs.nil
  | t :: r, h => by
    have a := h t List.mem_cons_self
    have b := ydatas_tx fun u hu => h u (List.mem_cons_of_mem _ hu)
    have p : 1 ≤ t.size := t.pos
    have c := Txs.cons a b
    refine ⟨c.sh, c.dp, Nat.le_trans c.sz ?_, c.lay⟩
    simp only [Ty.sizes]
    omega
theorem ypairs_tx {m : Nat} : ∀ {ls : List Str} {ts : List Ty}, (∀ n ∈ ls, isName n) → ls.length = ts.length → (∀ t ∈ ts, Tx t.data (400 * t.size - 200) m) → Txs (pairs ls (Ty.datas ts)) (400 * Ty.sizes ts) (m + 1)
  | [], [], _, _, _ => Txs.nil
  | [], t :: r, _, h, _ => by simp at h
  | n :: ls, [], _, h, _ => by simp at h
  | n :: ls, t :: r, hn, h, f => by
    have a := f t List.mem_cons_self
    have b := ypairs_tx (fun u hu => hn u (List.mem_cons_of_mem _ hu)) (by simpa using h) fun u hu => f u (List.mem_cons_of_mem _ hu)
    have p : 1 ≤ t.size := t.pos
    have c := Txs.cons ((Txs.cons ((Tx.name (hn n List.mem_cons_self)).mono (Nat.le_refl _) (Nat.zero_le m)) (Txs.cons a Txs.nil)).tup) b
    refine ⟨c.sh, c.dp, Nat.le_trans c.sz ?_, c.lay⟩
    simp only [Ty.sizes]
    omega
theorem ydata_tx {t : Ty} (w : Nm t) : Tx t.data (400 * t.size - 200) t.dd := by
  induction w with
  | @mk h ks o nm _ ih =>
    have kid : ∀ k ∈ ks, Tx k.data (400 * k.size - 200) (Ty.dds ks) := fun k hk => (ih k hk).mono (Nat.le_refl _) (ydd_kid hk)
    have all := ydatas_tx kid
    simp only [Ty.data, Ty.size, Ty.dd]
    cases h with
    | var m => exact ((tx_word "var" (by decide +kernel) (m := 0)).cons ((tx_nat nm).cons .nil)).tup.mono (by omega) (by simp only [Hy.dw]; omega)
    | int => exact ((tx_word "int" (by decide +kernel) (m := 0)).cons .nil).tup.mono (by omega) (by simp only [Hy.dw]; omega)
    | bool => exact ((tx_word "bool" (by decide +kernel) (m := 0)).cons .nil).tup.mono (by omega) (by simp only [Hy.dw]; omega)
    | fn => exact ((tx_word "fun" (by decide +kernel)).cons all).tup.mono (by omega) (by simp only [Hy.dw]; omega)
    | tup => exact ((tx_word "tuple" (by decide +kernel)).cons (all.lst.cons .nil)).tup.mono (by omega) (by simp only [Hy.dw]; omega)
    | rcd ls m => exact ((tx_word "record" (by decide +kernel)).cons ((ypairs_tx nm.1 o.1.symm kid).lst.cons ((tx_tail nm.2).cons .nil))).tup.mono (by omega) (by simp only [Hy.dw]; omega)
theorem pairs_eq : ∀ {ls ls' : List Str} {ds ds' : List PyData}, ls.length = ds.length → ls'.length = ds'.length → PyData.eqvAll (pairs ls ds) (pairs ls' ds') = true → ls = ls' ∧ PyData.eqvAll ds ds' = true
  | [], [], [], [], _, _, _ => ⟨rfl, by simp [PyData.eqvAll]⟩
  | [], n :: ls, [], d :: ds, _, _, h => by simp [pairs, PyData.eqvAll] at h
  | n :: ls, [], d :: ds, [], _, _, h => by simp [pairs, PyData.eqvAll] at h
  | n :: ls, n' :: ls', d :: ds, d' :: ds', h1, h2, h => by
    simp only [pairs, PyData.eqvAll, PyData.eqv, Bool.and_eq_true, beq_iff_eq] at h
    obtain ⟨⟨h3, h4, _⟩, h5⟩ := h
    obtain ⟨e1, e2⟩ := pairs_eq (by simpa using h1) (by simpa using h2) h5
    exact ⟨by rw [h3, e1], by simp only [PyData.eqvAll, h4, e2, Bool.and_self]⟩
theorem tail_eq {m m' : Option Nat} (h : PyData.eqv (tailD m) (tailD m') = true) : m = m' := by
  cases m <;> cases m' <;> simp [tailD, PyData.eqv] at h ⊢
  omega
theorem datas_len : ∀ ks : List Ty, (Ty.datas ks).length = ks.length
  | [] => rfl
  | t :: r => by simp only [Ty.datas, List.length_cons, datas_len r]
mutual
theorem eqv_ty : ∀ (t t' : Ty), Wy t → Wy t' → PyData.eqv t.data t'.data = true → t = t'
  | .node h ks, .node h' ks', w, w', e => by
    have o := w.hd
    have o' := w'.hd
    simp only [Ty.data] at e
    have key : h = h' ∧ PyData.eqvAll (Ty.datas ks) (Ty.datas ks') = true := by
      cases h with
      | var n =>
        obtain rfl : ks = [] := List.eq_nil_of_length_eq_zero o
        cases h' with
        | var n' =>
          obtain rfl : ks' = [] := List.eq_nil_of_length_eq_zero o'
          simp only [Hy.form, PyData.eqv, PyData.eqvAll, Bool.and_eq_true, beq_iff_eq] at e
          exact ⟨by rw [show n = n' by omega], by simp [Ty.datas, PyData.eqvAll]⟩
        | _ => revert e; simp [Hy.form, PyData.eqv, PyData.eqvAll] <;> exact fun z => absurd z (by decide +kernel)
      | int =>
        obtain rfl : ks = [] := List.eq_nil_of_length_eq_zero o
        cases h' with
        | int =>
          obtain rfl : ks' = [] := List.eq_nil_of_length_eq_zero o'
          exact ⟨rfl, by simp [Ty.datas, PyData.eqvAll]⟩
        | _ => revert e; simp [Hy.form, PyData.eqv, PyData.eqvAll] <;> exact fun z => absurd z (by decide +kernel)
      | bool =>
        obtain rfl : ks = [] := List.eq_nil_of_length_eq_zero o
        cases h' with
        | bool =>
          obtain rfl : ks' = [] := List.eq_nil_of_length_eq_zero o'
          exact ⟨rfl, by simp [Ty.datas, PyData.eqvAll]⟩
        | _ => revert e; simp [Hy.form, PyData.eqv, PyData.eqvAll] <;> exact fun z => absurd z (by decide +kernel)
      | fn =>
        cases h' with
        | fn =>
          simp only [Hy.form, PyData.eqv, PyData.eqvAll, Bool.and_eq_true] at e
          exact ⟨rfl, e.2⟩
        | _ => revert e; simp [Hy.form, PyData.eqv, PyData.eqvAll] <;> exact fun z => absurd z (by decide +kernel)
      | tup =>
        cases h' with
        | tup =>
          simp only [Hy.form, PyData.eqv, PyData.eqvAll, Bool.and_eq_true] at e
          exact ⟨rfl, e.2.1⟩
        | _ => revert e; simp [Hy.form, PyData.eqv, PyData.eqvAll] <;> exact fun z => absurd z (by decide +kernel)
      | rcd ls m =>
        cases h' with
        | rcd ls' m' =>
          simp only [Hy.form, PyData.eqv, PyData.eqvAll, Bool.and_eq_true] at e
          obtain ⟨e1, e2⟩ := pairs_eq (by rw [datas_len]; exact o.1.symm) (by rw [datas_len]; exact o'.1.symm) e.2.1
          exact ⟨by rw [e1, tail_eq e.2.2.1], e2⟩
        | _ => revert e; simp [Hy.form, PyData.eqv, PyData.eqvAll] <;> exact fun z => absurd z (by decide +kernel)
    rw [key.1, eqv_tys ks ks' (fun t m => w.kid m) (fun t m => w'.kid m) key.2]
theorem eqv_tys : ∀ (ks ks' : List Ty), (∀ t ∈ ks, Wy t) → (∀ t ∈ ks', Wy t) → PyData.eqvAll (Ty.datas ks) (Ty.datas ks') = true → ks = ks'
  | [], [], _, _, _ => rfl
  | [], t :: r, _, _, e => by simp [Ty.datas, PyData.eqvAll] at e
  | t :: r, [], _, _, e => by simp [Ty.datas, PyData.eqvAll] at e
  | t :: r, t' :: r', w, w', e => by
    simp only [Ty.datas, PyData.eqvAll, Bool.and_eq_true] at e
    rw [eqv_ty t t' (w t (by simp)) (w' t' (by simp)) e.1, eqv_tys r r' (fun u m => w u (List.mem_cons_of_mem _ m)) (fun u m => w' u (List.mem_cons_of_mem _ m)) e.2]
end
theorem eqv_iff {t t' : Ty} (w : Nm t) (w' : Nm t') : PyData.eqv t.data t'.data = true ↔ t = t' :=
  ⟨eqv_ty t t' w.wy w'.wy, fun e => by rw [← e]; exact eqv_self _ (ydata_tx w).lay⟩
theorem ty_shaped {t : Ty} (w : Nm t) (d : t.dd ≤ 56) : SeqAt.shaped t.data = true := by
  have x := ydata_tx w
  show (t.data.canLay0 && decide (t.data.depth ≤ 64)) = true
  rw [Bool.and_eq_true]
  exact ⟨x.lay, decide_eq_true (Nat.le_trans x.dp (by omega))⟩
end Vt


set_option Elab.async false
set_option linter.all false
set_option maxRecDepth 100000
set_option maxHeartbeats 4000000

namespace Vt
open PySem PySem.Spec PyProof.Rows L2 TL
/-! ### what is below a node; a node with others below it -/
def spBelowY (K : PySem.W.Frag) : Sp := fun vs H Q _ => ∃ (v : V) (t : Ty) (G0 : Hp), vs = [v] ∧ Same G0 H ∧ Tr K G0 v t ∧ Wy t ∧ t.size ≤ 1000 ∧
  ∀ (p : Addr) (us : List V) (H' : Hp), Same H H' → (SqL K G0 p us ∨ (H p = none ∧ H' p = some (.lst us))) → Al (fun u k => Tr K G0 u k) us t.kids → Q (.ref p) H'
def spWithY (K : PySem.W.Frag) : Sp := fun vs H Q _ => ∃ (v : V) (h : Hy) (ks ks' : List Ty) (p : Addr) (us : List V) (G0 : Hp), vs = [v, .ref p] ∧ Same G0 H ∧ Tr K G0 v (.node h ks) ∧ SqL K H p us ∧ Al (fun u k => Tr K G0 u k) us ks' ∧ ks'.length = ks.length ∧ ks.length ≤ 1000 ∧
  ∀ (r : V) (H' : Hp), Same H H' → (∀ G, Same G0 G → Same (nw H H') G → Tr K G r (.node h ks')) → Q r H'
abbrev s_law_below : Stmt := topS 53
abbrev N_law_below : List Str := ["tree", "name", "inner"]
theorem sc_law_below : FnScope N_law_below ["tree"] (defScope s_law_below) := ⟨rfl, rfl, rfl, by decide +kernel, rfl, by decide +kernel, by decide +kernel⟩
abbrev s_law_with : Stmt := topS 54
abbrev N_law_with : List Str := ["tree", "some", "field", "one"]
theorem sc_law_with : FnScope N_law_with ["tree", "some"] (defScope s_law_with) := ⟨rfl, rfl, rfl, by decide +kernel, rfl, by decide +kernel, by decide +kernel⟩
section
variable {P : Program} {w : World} {K : PySem.W.Frag} {mg : Str → Option Value} {base : Heap}
theorem ok_below (S : Stands K mg "_law_below" s_law_below ["tree"]) (Z : Blt mg) : DefOk P w K mg base CX0 1 "_law_below" ["tree"] (spBelowY K) := by
  have z_list := Z.list
  obtain ⟨f, fd, F, hm, hb⟩ := S
  refine ⟨f, fd, ?_, hm, F.kp, hb⟩
  have nd := sc_law_below.nd
  refine F.ok sc_law_below (fun vs H Q E h => ?_) (fun cdv A outer s0 H vs Q E hr h => ?_)
  · obtain ⟨v, t, G0, rfl, _⟩ := h
    rfl
  obtain ⟨v, t, G0, rfl, hG, hT, hW, hz, q⟩ := h
  refine ⟨_, (pss_cons (ps_if (pt_cmpR op_eq (pe_ix ix_tup (pv 0) pe_int (fun _ _ => rfl)) pe_str (nomark _)) (pss_one (ps_ret (pe_ix ix_tup (pv 0) pe_int (fun _ _ => rfl)))) pss_nil)
      (pss_cons (ps_if (pt_cmpR op_eq (pe_ix ix_tup (pv 0) pe_int (fun _ _ => rfl)) pe_str (nomark _)) (pss_one (ps_ret (pe_lc (own := [("name", 1), ("inner", 2)]) (g := gTup K 2 (gCons (gName 1) (gCons (gName 2) gNil))) (tt := tYes) rfl nd (pi_list (pe_ix ix_tup (pv 0) pe_int (fun _ _ => rfl))) (blkOk_by (N := N_law_below) (sc := defScope s_law_below) (by decide +kernel)) (fun _ _ _ _ _ => (pg_tup rfl (pgs_cons (pg_name (i := 1) nd rfl (Or.inl rfl)) (pgs_cons (pg_name (i := 2) nd rfl (Or.inl rfl)) pgs_nil)))) (fun _ _ _ _ _ => pts_nil) (fun _ _ _ _ _ => (pv 2))))) pss_nil)
      (pss_one (ps_ret (pe_ifExp (pt_cmpR op_eq (pe_ix ix_tup (pv 0) pe_int (fun _ _ => rfl)) pe_str (nomark _)) (pe_callTy call_list_of (by rfl) z_list (by decide +kernel) (pa_cons (pe_slice sl_tup (pv 0) (po_some pe_int) po_none) pa_nil)) (pe_lst pa_nil)))))), ?_⟩
  cases hT with
  | @tup a l vs ts h2 h3 h4 h5 =>
    have hx := hG.tupS h2
    refine ⟨_, rfl, a, _, _, _, rfl, rfl, hx, at0, rfl, _, rfl, ifT (w_tupY .tup) ?_⟩
    exact ⟨_, rfl, a, _, _, _, rfl, rfl, hx, rfl, q l vs H (Same.refl _) (.inl h3) ⟨h4, h5⟩⟩
  | @rcd a l bs vs ls ts m h2 h3 h4 h5 h6 h7 h8 =>
    have hx := hG.tupS h2
    have hks := ylen_sizes ts
    simp only [Ty.size] at hz
    refine ⟨_, rfl, a, _, _, _, rfl, rfl, hx, at0, rfl, _, rfl, ifF (w_tupY (.rcd ls m)) ?_⟩
    refine ⟨_, rfl, a, _, _, _, rfl, rfl, hx, at0, rfl, _, rfl, ifT (w_rec (.rcd ls m)) ?_⟩
    refine ⟨_, rfl, a, _, _, _, rfl, rfl, hx, rfl, l, rfl, ⟨_, hG.seq h3⟩, fun D hD => ?_⟩
    refine lc_list (K := K) (a := l) (xs := bs.map V.ref) (fun i X => ∃ (G : Hp), Same G X ∧ G D = none ∧ Same H G ∧ X D = some (.lst (vs.take i)))
      ⟨H, same_new hD _, hD, Same.refl _, upd_same⟩ (fun i X hi ⟨G, g1, _, g3, _⟩ => (g3.trans g1).seq (hG.seq h3)) ?_ ?_
    · rintro i x X hxx ⟨G, g1, g2, g3, g4⟩
      obtain ⟨b, hb1, hb2, rfl⟩ := get_map hxx
      have hi := (List.getElem?_eq_some_iff.mp hb2).1
      have hu : vs[i]? = some (vs[i]'(by omega)) := List.getElem?_eq_getElem (by omega)
      have hn : ls[i]? = some (ls[i]'(by omega)) := List.getElem?_eq_getElem (by omega)
      have ht := (hG.trans (g3.trans g1)).tupS (h7 i b _ _ hb2 hn hu)
      refine ⟨b, _, rfl, ht, rfl, ?_⟩
      refine ⟨_, _, rfl, ⟨_, _, rfl, rfl, ?_⟩⟩
      refine ⟨rfl, ?_⟩
      refine yes_of (ifTt rfl ?_)
      refine ⟨_, rfl, _, g4, small1000 (by rw [List.length_take]; omega), G, g1.wr g2, g2, g3, ?_⟩
      rw [upd_same, List.take_add_one, hu]
      rfl
    · rintro X ⟨G, g1, g2, g3, g4⟩
      rw [List.length_map, List.take_of_length_le (by omega)] at g4
      exact q D vs X (g3.trans g1) (.inr ⟨hD, g4⟩) ⟨h6, h8⟩
  | @fn a u1 u2 t1 t2 h1 h2 h3 =>
    have hx := hG.tupS h1
    refine ⟨_, rfl, a, _, _, _, rfl, rfl, hx, at0, rfl, _, rfl, ifF (w_tupY .fn) ?_⟩
    refine ⟨_, rfl, a, _, _, _, rfl, rfl, hx, at0, rfl, _, rfl, ifF (w_rec .fn) ?_⟩
    refine ⟨_, rfl, a, _, _, _, rfl, rfl, hx, at0, rfl, _, rfl, ifT (w_fnY .fn) ?_⟩
    refine ⟨_, rfl, _, rfl, a, _, rfl, hx, (fun z' => absurd (show (1 : Nat) = 0 from z'.1) (by decide)), fun p hp => ?_⟩
    refine ⟨p, _, rfl, .inr (SqT.of upd_same), fun r hr2 => ?_⟩
    exact q r [u1, u2] _ ((same_new hp _).trans (same_new hr2 _)) (.inr ⟨(same_new hp _).fr hr2, upd_same⟩) (al2 h2 h3)
  | @var a n h1 =>
    have hx := hG.tupS h1
    refine ⟨_, rfl, a, _, _, _, rfl, rfl, hx, at0, rfl, _, rfl, ifF (w_tupY (.var n)) ?_⟩
    refine ⟨_, rfl, a, _, _, _, rfl, rfl, hx, at0, rfl, _, rfl, ifF (w_rec (.var n)) ?_⟩
    refine ⟨_, rfl, a, _, _, _, rfl, rfl, hx, at0, rfl, _, rfl, ifF (w_fnY (.var n)) ?_⟩
    exact ⟨sz (by simp), fun r hr2 => q r [] _ (same_new hr2 _) (.inr ⟨hr2, upd_same⟩) al0⟩
  | @int a h1 =>
    have hx := hG.tupS h1
    refine ⟨_, rfl, a, _, _, _, rfl, rfl, hx, at0, rfl, _, rfl, ifF (w_tupY .int) ?_⟩
    refine ⟨_, rfl, a, _, _, _, rfl, rfl, hx, at0, rfl, _, rfl, ifF (w_rec .int) ?_⟩
    refine ⟨_, rfl, a, _, _, _, rfl, rfl, hx, at0, rfl, _, rfl, ifF (w_fnY .int) ?_⟩
    exact ⟨sz (by simp), fun r hr2 => q r [] _ (same_new hr2 _) (.inr ⟨hr2, upd_same⟩) al0⟩
  | @bool a h1 =>
    have hx := hG.tupS h1
    refine ⟨_, rfl, a, _, _, _, rfl, rfl, hx, at0, rfl, _, rfl, ifF (w_tupY .bool) ?_⟩
    refine ⟨_, rfl, a, _, _, _, rfl, rfl, hx, at0, rfl, _, rfl, ifF (w_rec .bool) ?_⟩
    refine ⟨_, rfl, a, _, _, _, rfl, rfl, hx, at0, rfl, _, rfl, ifF (w_fnY .bool) ?_⟩
    exact ⟨sz (by simp), fun r hr2 => q r [] _ (same_new hr2 _) (.inr ⟨hr2, upd_same⟩) al0⟩
theorem ok_with (S : Stands K mg "_law_with" s_law_with ["tree", "some"]) (Z : Blt mg) : DefOk P w K mg base CX0 1 "_law_with" ["tree", "some"] (spWithY K) := by
  have z_list := Z.list
  have z_zip := Z.zip
  obtain ⟨f, fd, F, hm, hb⟩ := S
  refine ⟨f, fd, ?_, hm, F.kp, hb⟩
  have nd := sc_law_with.nd
  refine F.ok sc_law_with (fun vs H Q E h => ?_) (fun cdv A outer s0 H vs Q E hr h => ?_)
  · obtain ⟨v, h, ks, ks', p, us, G0, rfl, _⟩ := h
    rfl
  obtain ⟨v, h, ks, ks', p, us, G0, rfl, hG, hT, hp, hal, hlen, hz, q⟩ := h
  refine ⟨_, (pss_cons (ps_if (pt_cmpR op_eq (pe_ix ix_tup (pv 0) pe_int (fun _ _ => rfl)) pe_str (nomark _)) (pss_one (ps_ret (pe_tup (pa_cons pe_str (pa_cons (pe_callTy call_list_of (by rfl) z_list (by decide +kernel) (pa_cons (pv 1) pa_nil)) pa_nil))))) pss_nil)
      (pss_cons (ps_if (pt_cmpR op_eq (pe_ix ix_tup (pv 0) pe_int (fun _ _ => rfl)) pe_str (nomark _)) (pss_one (ps_ret (pe_tup (pa_cons pe_str (pa_cons (pe_lc (own := [("field", 2), ("one", 3)]) (g := gTup K 2 (gCons (gName 2) (gCons (gName 3) gNil))) (tt := tYes) rfl nd (pi_zip (by rfl) z_zip (pa_cons (pe_ix ix_tup (pv 0) pe_int (fun _ _ => rfl)) (pa_cons (pv 1) pa_nil))) (blkOk_by (N := N_law_with) (sc := defScope s_law_with) (by decide +kernel)) (fun _ _ _ _ _ => (pg_tup rfl (pgs_cons (pg_name (i := 2) nd rfl (Or.inl rfl)) (pgs_cons (pg_name (i := 3) nd rfl (Or.inl rfl)) pgs_nil)))) (fun _ _ _ _ _ => pts_nil) (fun _ _ _ _ _ => (pe_tup (pa_cons (pe_ix (r := rIxT K) ix_tup (pv 2) pe_int (fun _ _ => rfl)) (pa_cons (pv 3) pa_nil))))) (pa_cons (pe_ix ix_tup (pv 0) pe_int (fun _ _ => rfl)) pa_nil)))))) pss_nil)
      (pss_one (ps_ret (pe_ifExp (pt_cmpR op_eq (pe_ix ix_tup (pv 0) pe_int (fun _ _ => rfl)) pe_str (nomark _)) (pe_tup (pa_cons pe_str (pa_cons (pe_ix ix_list (pv 1) pe_int (fun _ _ => rfl)) (pa_cons (pe_ix ix_list (pv 1) pe_int (fun _ _ => rfl)) pa_nil)))) (pv 0)))))), ?_⟩
  have hul := hal.1
  cases hT with
  | @tup a l vs ts h2 h3 h4 h5 =>
    have hx := hG.tupS h2
    refine ⟨_, rfl, a, _, _, _, rfl, rfl, hx, at0, rfl, _, rfl, ifT (w_tupY .tup) ?_⟩
    refine ⟨_, rfl, p, _, rfl, .inl hp, fun l2 hl2 => ⟨sz (by simp), fun r hr2 => ?_⟩⟩
    have S1 := same_new hl2 (.lst us)
    have S2 := same_new hr2 (.tup [V.str "tuple", .ref l2])
    refine q _ _ (S1.trans S2) fun G s1 s2 => ?_
    exact .tup (SqT.of (s2 _ _ (nw_at (S1.fr hr2)))) (SqL.of (s2 _ _ (by rw [nw_of hl2]; exact S2 _ _ upd_same))) hul fun i u t e1 e2 => (hal.2 i u t e1 e2).same s1
  | @rcd a l bs vs ls ts m h2 h3 h4 h5 h6 h7 h8 =>
    have hx := hG.tupS h2
    refine ⟨_, rfl, a, _, _, _, rfl, rfl, hx, at0, rfl, _, rfl, ifF (w_tupY (.rcd ls m)) ?_⟩
    refine ⟨_, rfl, a, _, _, _, rfl, rfl, hx, at0, rfl, _, rfl, ifT (w_rec (.rcd ls m)) ?_⟩
    refine ⟨_, rfl, a, _, _, _, rfl, rfl, hx, rfl, _, rfl, ?_⟩
    refine ⟨l, p, _, _, rfl, hG.seq h3, hp, fun D hD => ?_⟩
    refine lc_it (walk_zip (K := K) (a := l) (b := p) (xs := bs.map V.ref) (ys := us) (n := us.length) (by rw [List.length_map]; omega)) (fun i X => ∃ (G : Hp) (cs : List Addr), Same G X ∧ G D = none ∧ Same H G ∧ X D = some (.lst (cs.map V.ref)) ∧ cs.length = i ∧
        ∀ (j : Nat) (c : Addr) (n : Str) (u : V), cs[j]? = some c → ls[j]? = some n → us[j]? = some u → SqT K (nw H G) c [.str n, u])
      ⟨H, [], same_new hD _, hD, Same.refl _, upd_same, rfl, fun j c n u e => by simp at e⟩ (fun i X hi ⟨G, _, g1, _, g3, _⟩ => ⟨(g3.trans g1).seq (hG.seq h3), (g3.trans g1).seq hp⟩) ?_ ?_
    · rintro i x X X' hi ⟨G, cs, g1, g2, g3, g4, g5, g6⟩ ⟨T0, y, u, rfl, hT0, rfl, hy, hu⟩
      obtain ⟨b, hb1, hb2, rfl⟩ := get_map hy
      have hn : ls[i]? = some (ls[i]'(by omega)) := List.getElem?_eq_getElem (by omega)
      have hv : vs[i]? = some (vs[i]'(by omega)) := List.getElem?_eq_getElem (by omega)
      have ST := same_new hT0 (.tup [V.ref b, u])
      have g1' := g1.trans ST
      have g4' := ST _ _ g4
      have ht := (hG.trans (g3.trans g1')).tupS (h7 i b _ _ hb2 hn hv)
      refine ⟨T0, _, rfl, SqT.of upd_same, rfl, ?_⟩
      refine ⟨_, _, rfl, ⟨_, _, rfl, rfl, ?_⟩⟩
      refine ⟨rfl, ?_⟩
      refine yes_of (ifTt rfl ?_)
      generalize upd X T0 (.tup [V.ref b, u]) = X1 at *
      generalize ls[i]'(by omega) = nm at *
      refine ⟨_, rfl, b, _, _, _, rfl, rfl, ht, at0, _, rfl, sz (by simp), fun pt hpt => ?_⟩
      have St := same_new hpt (.tup [V.str nm, u])
      have ptD : pt ≠ D := fun z => by rw [z, g4'] at hpt; cases hpt
      have hptH : H pt = none := (g3.trans g1').fr hpt
      have gg : Same G (off D (upd X1 pt (.tup [V.str nm, u]))) := (g1'.trans St).off g2
      refine ⟨cs.map V.ref, St _ _ g4', sz (by rw [List.length_map]; omega), off D (upd X1 pt (.tup [V.str nm, u])), cs ++ [pt], off_same.wr off_at, off_at, g3.trans gg, ?_, by simp [g5], ?_⟩
      · rw [upd_same, List.map_append]
        rfl
      · intro j' c n u' e1 e2 e3
        rcases getSnoc e1 with ⟨q1, e1⟩ | ⟨q1, rfl⟩
        · exact (nw_same gg).tupS (g6 j' c n u' e1 e2 e3)
        · rw [q1, g5, hn] at e2
          rw [q1, g5] at e3
          rw [show us[i]? = some u from hu] at e3
          injection e2 with e2
          injection e3 with e3
          rw [← e2, ← e3]
          exact SqT.of (by rw [nw_of hptH, off_ne ptD, upd_same])
    · rintro X ⟨G, cs, g1, g2, g3, g4, g5, g6⟩
      have hxX := (g3.trans g1).tupS hx
      refine ⟨_, rfl, a, _, _, _, rfl, rfl, hxX, rfl, sz (by simp), fun r hr2 => ?_⟩
      have Sr := same_new hr2 (.tup [V.str "record", .ref D, tailV m])
      refine q _ _ ((g3.trans g1).trans Sr) fun G2 s1 s2 => ?_
      have bb := ((nw_same (H := H) g1).trans (nw_same Sr)).trans s2
      exact .rcd (SqT.of (s2 _ _ (nw_at ((g3.trans g1).fr hr2)))) (SqL.of (s2 _ _ (by rw [nw_of hD]; exact Sr _ _ g4))) (by omega) (by omega) (by omega) (fun j c n u e1 e2 e3 => bb.tupS (g6 j c n u e1 e2 e3)) fun i u t e1 e2 => (hal.2 i u t e1 e2).same s1
  | @fn a u1 u2 t1 t2 h1 h2 h3 =>
    have hx := hG.tupS h1
    match ks', us, hlen, hul with
    | [k1, k2], [w1, w2], _, _ =>
      refine ⟨_, rfl, a, _, _, _, rfl, rfl, hx, at0, rfl, _, rfl, ifF (w_tupY .fn) ?_⟩
      refine ⟨_, rfl, a, _, _, _, rfl, rfl, hx, at0, rfl, _, rfl, ifF (w_rec .fn) ?_⟩
      refine ⟨_, rfl, a, _, _, _, rfl, rfl, hx, at0, rfl, _, rfl, ifT (w_fnY .fn) ?_⟩
      refine ⟨_, rfl, p, _, _, _, rfl, rfl, hp, atI_nat (j := 0) rfl, _, rfl, p, _, _, _, rfl, rfl, hp, atI_nat (j := 1) rfl, sz (by simp), fun r hr2 => ?_⟩
      refine q _ _ (same_new hr2 _) fun G s1 s2 => ?_
      exact .fn (SqT.of (s2 _ _ (nw_at hr2))) ((hal.2 0 _ _ rfl rfl).same s1) ((hal.2 1 _ _ rfl rfl).same s1)
  | @var a n h1 =>
    have hx := hG.tupS h1
    obtain rfl : ks' = [] := List.eq_nil_of_length_eq_zero hlen
    refine ⟨_, rfl, a, _, _, _, rfl, rfl, hx, at0, rfl, _, rfl, ifF (w_tupY (.var n)) ?_⟩
    refine ⟨_, rfl, a, _, _, _, rfl, rfl, hx, at0, rfl, _, rfl, ifF (w_rec (.var n)) ?_⟩
    refine ⟨_, rfl, a, _, _, _, rfl, rfl, hx, at0, rfl, _, rfl, ifF (w_fnY (.var n)) ?_⟩
    exact ⟨_, rfl, q _ H (Same.refl _) fun G s1 _ => .var (s1.tupS h1)⟩
  | @int a h1 =>
    have hx := hG.tupS h1
    obtain rfl : ks' = [] := List.eq_nil_of_length_eq_zero hlen
    refine ⟨_, rfl, a, _, _, _, rfl, rfl, hx, at0, rfl, _, rfl, ifF (w_tupY .int) ?_⟩
    refine ⟨_, rfl, a, _, _, _, rfl, rfl, hx, at0, rfl, _, rfl, ifF (w_rec .int) ?_⟩
    refine ⟨_, rfl, a, _, _, _, rfl, rfl, hx, at0, rfl, _, rfl, ifF (w_fnY .int) ?_⟩
    exact ⟨_, rfl, q _ H (Same.refl _) fun G s1 _ => .int (s1.tupS h1)⟩
  | @bool a h1 =>
    have hx := hG.tupS h1
    obtain rfl : ks' = [] := List.eq_nil_of_length_eq_zero hlen
    refine ⟨_, rfl, a, _, _, _, rfl, rfl, hx, at0, rfl, _, rfl, ifF (w_tupY .bool) ?_⟩
    refine ⟨_, rfl, a, _, _, _, rfl, rfl, hx, at0, rfl, _, rfl, ifF (w_rec .bool) ?_⟩
    refine ⟨_, rfl, a, _, _, _, rfl, rfl, hx, at0, rfl, _, rfl, ifF (w_fnY .bool) ?_⟩
    exact ⟨_, rfl, q _ H (Same.refl _) fun G s1 _ => .bool (s1.tupS h1)⟩
end
end Vt


set_option Elab.async false
set_option linter.all false
set_option maxRecDepth 100000
set_option maxHeartbeats 4000000

namespace Vt
open PySem PySem.Spec PyProof.Rows L2 TL
/-! ### numbered, as the law has it -/
def spPlace (K : PySem.W.Frag) : Sp := fun vs H Q _ => ∃ (m : Nat) (l : Addr) (s : List Nat), vs = [.int (m : Nat), .ref l] ∧ H l = some (.lst (nums s)) ∧ s.length ≤ 900000 ∧ ∀ H', (∀ b, b ≠ l → H' b = H b) → H' l = some (.lst (nums (addM m s))) → Q (.int (s.idxOf m : Nat)) H'
/-- what stands in G, or else in N -/
def un (G N : Hp) : Hp := fun b => if (G b).isSome then G b else N b
theorem un_l {G N : Hp} : Same G (un G N) := fun b o e => by
  unfold un
  rw [e]
  rfl
theorem un_r {G N : Hp} (d : ∀ b o, G b = some o → N b = none) : Same N (un G N) := fun b o e => by
  unfold un
  cases h : G b with
  | none => exact e
  | some u => rw [d b u h] at e; cases e
theorem un_le {G N H : Hp} (a : Same G H) (b : Same N H) : Same (un G N) H := fun c o e => by
  unfold un at e
  cases h : G c with
  | none => rw [h] at e; exact b c o e
  | some u => rw [h] at e; exact a c o (by rw [h]; exact e)
theorem un_mono {G N N' : Hp} (b : Same N N') : Same (un G N) (un G N') := fun c o e => by
  unfold un at e ⊢
  cases h : G c with
  | none => rw [h] at e; exact b c o e
  | some u => rw [h] at e; exact e
theorem un_nw {G0 H H' : Hp} (s : Same G0 H) : Same (nw H H') (un G0 (nw H H')) := un_r fun b o e => by
  unfold nw
  rw [s _ _ e]
  rfl
theorem nw_inD {d : Addr} {H X A : Hp} (k : Keep d H X) (xd : X d ≠ none) : Same (nw X A) (nw H A) := fun b o e => by
  obtain ⟨e1, e2⟩ := nw_get e
  rw [nw_of (keep_none k (fun z => xd (by rw [← z]; exact e1)) e1)]
  exact e2
theorem Keep.ghost {d : Addr} {G0 H G : Hp} (k : Keep d H G) (s : Same G0 H) (hd : G0 d = Option.none) : Same G0 G := fun b o e => k b o (fun z => by rw [z, hd] at e; cases e) (s _ _ e)
def spNumL (K : PySem.W.Frag) (n : Nat) : Sp := fun vs H Q _ => ∃ (v : V) (t : Ty) (l : Addr) (s : List Nat) (G0 : Hp), vs = [v, .ref l] ∧ H l = some (.lst (nums s)) ∧ Same G0 H ∧ G0 l = none ∧ Tr K G0 v t ∧ Wy t ∧ t.size ≤ 1000 ∧ s.length + t.size ≤ 500000 ∧ t.deep ≤ n ∧
  ∀ (r : V) (H' : Hp), Keep l H H' → H' l = some (.lst (nums (t.num s).2)) → Tr K (un G0 (nw H H')) r (t.num s).1 → Q r H'
theorem mark_none {h : Hy} (e : h.mark = none) (s : List Nat) : h.num s = h ∧ h.seen s = s := by
  cases h with
  | var n => cases e
  | rcd ls m =>
    obtain rfl : m = none := e
    exact ⟨rfl, rfl⟩
  | _ => exact ⟨rfl, rfl⟩
theorem inV_nums (m : Nat) : ∀ s : List Nat, inV (V.int (m : Int)) (nums s) = decide (m ∈ s) := by
  intro s
  induction s with
  | nil => rfl
  | cons n r ih =>
    have e : inV (V.int (m : Int)) (nums (n :: r)) = (((n : Int) == (m : Int)) || inV (V.int (m : Int)) (nums r)) := rfl
    rw [e, ih]
    by_cases c : n = m
    · subst c
      simp
    · have : ((n : Int) == (m : Int)) = false := by
        rw [beq_eq_false_iff_ne]
        omega
      rw [this, Bool.false_or]
      simp only [List.mem_cons]
      have c' : ¬ m = n := fun z => c z.symm
      simp only [c', false_or]
theorem nums_flat (s : List Nat) : (nums s).all flatV = true := by
  unfold nums
  rw [List.all_map, List.all_eq_true]
  exact fun x _ => rfl
theorem first_idx {m n : Nat} : ∀ {s : List Nat} {j : Nat}, j < s.idxOf m → s[j]? = some n → n ≠ m
  | [], j, _, e => by simp at e
  | k :: r, j, h, e => by
    by_cases c : k = m
    · rw [c, List.idxOf_cons_self] at h
      omega
    · rw [List.idxOf_cons] at h
      have : (k == m) = false := by simpa using c
      rw [this] at h
      cases j with
      | zero =>
        have : k = n := by simpa using e
        rw [← this]
        exact c
      | succ j => exact first_idx (s := r) (j := j) (by simpa using h) (by simpa using e)
theorem nums_get {s : List Nat} {j : Nat} {z : V} (h : (nums s)[j]? = some z) : ∃ n : Nat, s[j]? = some n ∧ z = .int (n : Nat) := by
  obtain ⟨x, _, e, r⟩ := get_map h
  exact ⟨x, e, r⟩
abbrev s_law_place : Stmt := topS 58
abbrev N_law_place : List Str := ["number", "seen"]
theorem sc_law_place : FnScope N_law_place ["number", "seen"] (defScope s_law_place) := ⟨rfl, rfl, rfl, by decide +kernel, rfl, by decide +kernel, by decide +kernel⟩
abbrev s_law_numbered : Stmt := topS 57
abbrev N_law_numbered : List Str := ["tree", "seen", "some", "fields", "one", "field"]
theorem sc_law_numbered : FnScope N_law_numbered ["tree", "seen"] (defScope s_law_numbered) := ⟨rfl, rfl, rfl, by decide +kernel, rfl, by decide +kernel, by decide +kernel⟩
section
variable {P : Program} {w : World} {K : PySem.W.Frag} {mg : Str → Option Value} {base : Heap}
theorem ok_place (S : Stands K mg "_law_place" s_law_place ["number", "seen"]) : DefOk P w K mg base CX0 1 "_law_place" ["number", "seen"] (spPlace K) := by
  obtain ⟨f, fd, F, hm, hb⟩ := S
  refine ⟨f, fd, ?_, hm, F.kp, hb⟩
  have nd := sc_law_place.nd
  refine F.ok sc_law_place (fun vs H Q E h => ?_) (fun cdv A outer s0 H vs Q E hr h => ?_)
  · obtain ⟨m, l, s, rfl, _⟩ := h
    rfl
  obtain ⟨m, l, s, rfl, hl, hs, q⟩ := h
  refine ⟨_, (C8.pss_cut (ps_if (pt_cmpR op_notIn_seq (pv 0) (pv 1) (by rfl)) (pss_one (ps_expr (pe_bm PySem.F.plainAttrs_list PySem.F.slot_list_append PySem.F.type_list_append mt_append (pv 1) (pa_cons (pv 0) pa_nil)))) pss_nil)
      (pss_one (ps_ret (pe_bm PySem.F.plainAttrs_list PySem.F.slot_list_index PySem.F.type_list_index mt_index (pv 1) (pa_cons (pv 0) pa_nil))))), ?_⟩
  have idx : ∀ (s' : List Nat) (H' : Hp) (R : VK), H' l = some (.lst (nums s')) → s'[s.idxOf m]? = some m → (∀ j n, j < s.idxOf m → s'[j]? = some n → n ≠ m) → R (.int (s.idxOf m : Nat)) H' →
      ∃ (a : Addr) (ys : List V) (y : V) (j : Nat) (z : V), V.ref l = .ref a ∧ [V.int (m : Nat)] = [y] ∧ SqL K H' a ys ∧ flatV y = true ∧ ys.all flatV = true ∧ ys[j]? = some z ∧ eqV z y = true ∧ (∀ (i : Nat) (z' : V), i < j → ys[i]? = some z' → eqV z' y = false) ∧ R (.int (j : Nat)) H' := fun s' H' R e1 e2 e3 r =>
    ⟨l, nums s', .int (m : Nat), s.idxOf m, .int (m : Nat), rfl, rfl, SqL.of e1, rfl, nums_flat s', by unfold nums; rw [List.getElem?_map, e2]; rfl, by simp [eqV], fun i z' hi hz => by
      obtain ⟨n, hn, rfl⟩ := nums_get hz
      have := e3 i n hi hn
      show ((n : Int) == (m : Int)) = false
      rw [beq_eq_false_iff_ne]
      omega, r⟩
  refine ⟨fun σ' H' => σ' = [some (.int (m : Nat)), some (.ref l)] ∧ (∀ b, b ≠ l → H' b = H b) ∧ H' l = some (.lst (nums (addM m s))), ?_, ?_⟩
  · refine ⟨_, rfl, _, rfl, l, _, rfl, .inl (SqL.of hl), rfl, nums_flat s, _, rfl, ?_⟩
    show (if (!inV (V.int (m : Int)) (nums s)) = true then _ else _)
    rw [inV_nums]
    by_cases c : m ∈ s
    · refine ifF (by rw [decide_eq_true c]; rfl) ?_
      exact ⟨rfl, fun _ _ => rfl, by unfold addM; rw [if_pos c]; exact hl⟩
    · refine ifT (by rw [decide_eq_false c]; rfl) ?_
      refine ⟨_, rfl, .inl ⟨rfl, _, SqL.of hl⟩, _, rfl, l, _, _, rfl, rfl, hl, sm9 (by unfold nums; rw [List.length_map]; omega), ?_⟩
      exact ⟨rfl, fun b hb => upd_ne hb, by rw [upd_same]; unfold addM; rw [if_neg c, nums_snoc]⟩
  · rintro σ' H' ⟨rfl, hE, hN⟩
    refine ⟨_, rfl, .inl ⟨rfl, _, SqL.of hN⟩, _, rfl, ?_⟩
    refine idx (addM m s) H' Q hN ?_ ?_ (q H' hE hN)
    · unfold addM
      by_cases c : m ∈ s
      · rw [if_pos c, List.getElem?_eq_getElem (List.idxOf_lt_length_of_mem c), List.getElem_idxOf]
      · rw [if_neg c, List.idxOf_eq_length c, List.getElem?_append_right (Nat.le_refl _)]
        simp
    · intro j n hj e
      unfold addM at e
      have hle := List.idxOf_le_length (a := m) (l := s)
      by_cases c : m ∈ s
      · rw [if_pos c] at e
        exact first_idx hj e
      · rw [if_neg c, List.getElem?_append_left (by omega)] at e
        exact first_idx hj e
theorem ok_lnum0 (S : Stands K mg "_law_numbered" s_law_numbered ["tree", "seen"]) : DefOk P w K mg base CX0 2 "_law_numbered" ["tree", "seen"] (spNumL K 0) := by
  obtain ⟨f, fd, F, hm, hb⟩ := S
  refine ⟨f, fd, ?_, hm, F.kp, hb⟩
  have nd := sc_law_numbered.nd
  refine F.ok sc_law_numbered (fun vs H Q E h => ?_) (fun cdv A outer s0 H vs Q E hr h => ?_)
  · obtain ⟨v, t, l, s, G0, rfl, _⟩ := h
    rfl
  obtain ⟨v, t, l, s, G0, rfl, hl, hG, hGl, hT, hW, h1, h2, h3, q⟩ := h
  cases t
  simp only [Ty.deep] at h3
  omega
theorem ok_lnum {n : Nat} (S : Stands K mg "_law_numbered" s_law_numbered ["tree", "seen"]) (Z : Blt mg) (H_law_numbered : DefOk P w K mg base CX0 (n + 2) "_law_numbered" ["tree", "seen"] (spNumL K n)) (H_law_place : DefOk P w K mg base CX0 1 "_law_place" ["number", "seen"] (spPlace K))
    (H_law_below : DefOk P w K mg base CX0 1 "_law_below" ["tree"] (spBelowY K)) (H_law_with : DefOk P w K mg base CX0 1 "_law_with" ["tree", "some"] (spWithY K)) : DefOk P w K mg base CX0 (n + 3) "_law_numbered" ["tree", "seen"] (spNumL K (n + 1)) := by
  have z_zip := Z.zip
  obtain ⟨f, fd, F, hm, hb⟩ := S
  obtain ⟨f_law_numbered, fd_law_numbered, G_law_numbered, m_law_numbered, k_law_numbered, b_law_numbered⟩ := H_law_numbered
  obtain ⟨f_law_place, fd_law_place, G_law_place, m_law_place, k_law_place, b_law_place⟩ := H_law_place
  obtain ⟨f_law_below, fd_law_below, G_law_below, m_law_below, k_law_below, b_law_below⟩ := H_law_below
  obtain ⟨f_law_with, fd_law_with, G_law_with, m_law_with, k_law_with, b_law_with⟩ := H_law_with
  refine ⟨f, fd, ?_, hm, F.kp, hb⟩
  have nd := sc_law_numbered.nd
  refine F.ok sc_law_numbered (fun vs H Q E h => ?_) (fun cdv A outer s0 H vs Q E hr h => ?_)
  · obtain ⟨v, t, l, s, G0, rfl, _⟩ := h
    rfl
  obtain ⟨v, t, l, s, G0, rfl, hl, hG, hGl, hT, hW, h1, h2, h3, q⟩ := h
  refine ⟨_, (pss_cons (ps_if (pt_cmpR op_eq (pe_ix ix_tup (pv 0) pe_int (fun _ _ => rfl)) pe_str (nomark _)) (pss_one (ps_ret (pe_tup (pa_cons pe_str (pa_cons (pe_call G_law_place (hr.mono (by omega)) rfl m_law_place k_law_place b_law_place .nil pass0 (pa_cons (pe_ix ix_tup (pv 0) pe_int (fun _ _ => rfl)) (pa_cons (pv 1) pa_nil))) pa_nil))))) pss_nil)
      (pss_cons (ps_setLc (i := 2) (own := [("one", 4)]) (g := gName 4) (tt := tYes) rfl nd rfl rfl (sw_true rfl rfl rfl (by decide +kernel)) (pi_list (pe_call G_law_below (hr.mono (by omega)) rfl m_law_below k_law_below b_law_below .nil pass0 (pa_cons (pv 0) pa_nil))) (blkOk_by (N := N_law_numbered) (sc := defScope s_law_numbered) (by decide +kernel)) (fun _ _ _ _ _ => (pg_name (i := 4) nd rfl (Or.inl rfl))) (fun _ _ _ _ _ => pts_nil) (fun _ _ _ _ _ => (pe_call G_law_numbered (hr.mono (by omega)) rfl m_law_numbered k_law_numbered b_law_numbered .nil pass0 (pa_cons (pv 4) (pa_cons (pv 1) pa_nil)))))
      (pss_cons (ps_if (PW.pt (pw_or (pt_cmpR op_ne (pe_ix ix_tup (pv 0) pe_int (fun _ _ => rfl)) pe_str (nomark _)) (pw_or1 (pt_cmpR op_isN (pe_ix ix_tup (pv 0) pe_int (fun _ _ => rfl)) pe_non (nomark _))))) (pss_one (ps_ret (pe_call G_law_with (hr.mono (by omega)) rfl m_law_with k_law_with b_law_with .nil pass0 (pa_cons (pv 0) (pa_cons (pv 2) pa_nil))))) pss_nil)
      (pss_cons (ps_setLc (i := 3) (own := [("field", 5), ("one", 4)]) (g := gTup K 2 (gCons (gName 5) (gCons (gName 4) gNil))) (tt := tYes) rfl nd rfl rfl (sw_true rfl rfl rfl (by decide +kernel)) (pi_zip (by rfl) z_zip (pa_cons (pe_ix ix_tup (pv 0) pe_int (fun _ _ => rfl)) (pa_cons (pv 2) pa_nil))) (blkOk_by (N := N_law_numbered) (sc := defScope s_law_numbered) (by decide +kernel)) (fun _ _ _ _ _ => (pg_tup rfl (pgs_cons (pg_name (i := 5) nd rfl (Or.inl rfl)) (pgs_cons (pg_name (i := 4) nd rfl (Or.inl rfl)) pgs_nil)))) (fun _ _ _ _ _ => pts_nil) (fun _ _ _ _ _ => (pe_tup (pa_cons (pe_ix (r := rIxT K) ix_tup (pv 5) pe_int (fun _ _ => rfl)) (pa_cons (pv 4) pa_nil)))))
      (pss_one (ps_ret (pe_tup (pa_cons pe_str (pa_cons (pv 3) (pa_cons (pe_call G_law_place (hr.mono (by omega)) rfl m_law_place k_law_place b_law_place .nil pass0 (pa_cons (pe_ix ix_tup (pv 0) pe_int (fun _ _ => rfl)) (pa_cons (pv 1) pa_nil))) pa_nil)))))))))), ?_⟩
  have hlne : H l ≠ none := by rw [hl]; simp
  obtain ⟨a, xs, rfl, hx0⟩ := hT.tuple
  have hx := hG.tupS hx0
  cases t with
  | node h ks =>
  have hsz := h1
  simp only [Ty.size] at h1 h2
  simp only [Ty.deep] at h3
  have hks := ylen_sizes ks
  refine ⟨_, rfl, a, _, _, _, rfl, rfl, hx, at0, rfl, _, rfl, ?_⟩
  show (if decide (V.str h.word = V.str "var") = true then _ else _)
  rw [w_var]
  by_cases hv : ∃ n, h = .var n
  · obtain ⟨n, rfl⟩ := hv
    refine ifT rfl ?_
    cases hT with
    | @var _ _ h1x =>
      refine ⟨_, rfl, a, _, _, _, rfl, rfl, hG.tupS h1x, rfl, _, rfl, n, l, s, rfl, hl, by omega, fun H' hE hN => ⟨sz (by simp), fun p hp => ?_⟩⟩
      have Sp := same_new hp (.tup [V.str "var", V.int (s.idxOf n : Nat)])
      have hpl : p ≠ l := fun z => by rw [z, hN] at hp; cases hp
      have kH : Keep l H (upd H' p (.tup [V.str "var", V.int (s.idxOf n : Nat)])) := fun b o hb e => Sp _ _ (by rw [hE b hb]; exact e)
      refine q _ _ kH (Sp _ _ hN) (.var (SqT.of (un_nw hG _ _ (nw_at (by rw [← hE p hpl]; exact hp)))))
  · refine ifF (by cases h <;> first | rfl | exact absurd ⟨_, rfl⟩ hv) ?_
    refine ⟨_, rfl, .ref a, .node h ks, G0, rfl, hG, hT, hW, hsz, fun p vs H1 S1 hp hal => ?_⟩
    have hl1 := S1 _ _ hl
    have hl1ne : H1 l ≠ none := by rw [hl1]; simp
    have hG1 := hG.trans S1
    have hul : vs.length = ks.length := hal.1
    have stay : ∀ X, Keep l H1 X → SqL K X p vs := fun X k => by
      rcases hp with hp | ⟨hp, hp2⟩
      · exact (k.ghost hG1 hGl).seq hp
      · exact SqL.of (k _ _ (fun z => by rw [z, hl] at hp; cases hp) hp2)
    refine ⟨p, rfl, ⟨_, stay H1 (Keep.refl _ _)⟩, fun D hD => ?_⟩
    have hDH : H D = none := S1.fr hD
    have hDl : D ≠ l := fun z => by rw [z, hl1] at hD; cases hD
    refine lc_list (K := K) (a := p) (xs := vs) (fun i X => ∃ (G : Hp) (us : List V), Same G X ∧ G D = none ∧ Keep l H1 G ∧ G l = some (.lst (nums (Ty.nums (ks.take i) s).2)) ∧ X D = some (.lst us) ∧ Al (fun u t => Tr K (un G0 (nw H G)) u t) us (Ty.nums (ks.take i) s).1)
      ⟨H1, [], same_new hD _, hD, Keep.refl _ _, hl1, upd_same, al0⟩ (fun i X hi ⟨G, _, g1, _, g3, _⟩ => stay X (g3.same g1)) ?_ ?_
    · rintro j x X hvj ⟨G, us, g1, g2, g3, g4, g5, g6⟩
      refine gn ?_
      refine ⟨rfl, ?_⟩
      refine yes_of (ifTt rfl ?_)
      have hj := (List.getElem?_eq_some_iff.mp hvj).1
      have htj : ks[j]? = some (ks[j]'(by omega)) := List.getElem?_eq_getElem (by omega)
      have htm := hal.2 j x _ hvj htj
      have hmem := List.getElem_mem (by omega : j < ks.length)
      generalize ks[j]'(by omega) = t at *
      have ek := take_snoc htj
      have en := nums_snoc14 t (ks.take j) s
      rw [← ek] at en
      have hsl := nums_len (ks.take j) s
      have hst2 := ysizes_take ks (j + 1)
      rw [ek, ysizes_app] at hst2
      simp only [Ty.sizes] at hst2
      have hsk := ysize_kid hmem
      have hdk := ydeep_kid hmem
      refine ⟨_, rfl, _, rfl, x, t, l, _, G0, rfl, g1 _ _ g4, (g3.same g1).ghost hG1 hGl, hGl, htm, hW.kid hmem, by omega, by omega, by omega, fun r X' kx hx2 tr => ?_⟩
      obtain ⟨b1, b2, b3, b4, _, b6, b7⟩ := growD (L := .lst (us ++ [r])) g1 g2 g3 hl1ne (by rw [g4]; simp) g5 kx
      have b5 : Same (nw H G) (nw H (off D X')) := nw_keepD (Keep.off g1 kx g2) hlne
      have b8 := b6.trans (nw_inD (A := off D X') (S1.keep (s := l)) hl1ne)
      have hul2 := g6.1
      rw [nums_size, List.length_take] at hul2
      refine ⟨us, b4, sz (by omega), off D X', us ++ [r], b1, b2, b3, ?_, upd_same, ?_⟩
      · rw [off_ne b7.symm, hx2, en]
      · rw [en]
        exact (g6.mono fun u t _ z => z.same (un_mono b5)).snoc (tr.same (un_mono b8))
    · rintro X ⟨G, us, g1, g2, g3, g4, g5, g6⟩
      rw [hul, List.take_length] at g4 g6
      refine gn ?_
      have kX := (S1.keep (s := l)).trans (g3.same g1)
      have gX := kX.ghost hG hGl
      have hxX := gX.tupS hx0
      have hXl := g1 _ _ g4
      have hsl := nums_len ks s
      have hn := nums_size ks s
      have b7 := nw_same (H := H) g1
      have wi : h.mark = none → ∀ E', spWithY K [.ref a, .ref D] X Q E' := fun hm E' => by
        refine ⟨.ref a, h, ks, (Ty.nums ks s).1, D, us, un G0 (nw H G), rfl, un_le gX ((nw_sub).trans g1), hT.same un_l, SqL.of g5, g6, hn, by omega, fun r H' S' tr => ?_⟩
        obtain ⟨m1, m2⟩ := mark_none hm (Ty.nums ks s).2
        refine q r H' (kX.same S') (by simp only [Ty.num, m2]; exact S' _ _ hXl) ?_
        simp only [Ty.num, m1]
        exact tr _ (un_mono (b7.trans (nw_same S'))) ((nw_inD kX (by rw [hXl]; simp)).trans (un_nw hG))
      refine ⟨_, rfl, a, _, _, _, rfl, rfl, hxX, at0, rfl, _, rfl, ?_⟩
      show (if (!decide (V.str h.word = V.str "record")) = true then _ else _)
      rw [w_rec]
      by_cases hm : h.mark = none
      · by_cases hr : ∃ ls m, h = .rcd ls m
        · obtain ⟨ls, m, rfl⟩ := hr
          obtain rfl : m = none := hm
          cases hT with
          | @rcd _ _ bs vs0 _ _ _ h2x h3x h4x h5x h6x h7x h8x =>
            refine ifF rfl ?_
            refine ⟨_, rfl, a, _, _, _, rfl, rfl, gX.tupS h2x, rfl, rfl, _, rfl, ?_⟩
            refine ifT rfl ?_
            exact ⟨_, rfl, _, rfl, wi rfl E0⟩
        · refine ifT (by cases h <;> first | rfl | exact absurd ⟨_, _, rfl⟩ hr) ?_
          dsimp only
          refine ifT rfl ?_
          exact ⟨_, rfl, _, rfl, wi hm E0⟩
      · have hr : ∃ ls m, h = .rcd ls (some m) := by
          cases h with
          | rcd ls m =>
            cases m with
            | none => exact absurd rfl hm
            | some m => exact ⟨_, _, rfl⟩
          | var n => exact absurd ⟨_, rfl⟩ hv
          | _ => exact absurd rfl hm
        obtain ⟨ls, m, rfl⟩ := hr
        cases hT with
        | @rcd _ l_1 bs vs0 _ _ _ h2x h3x h4x h5x h6x h7x h8x =>
          refine ifF rfl ?_
          refine ⟨_, rfl, a, _, _, _, rfl, rfl, gX.tupS h2x, rfl, rfl, _, rfl, ?_⟩
          refine ifF rfl ?_
          have h2X := gX.tupS h2x
          have h3X := gX.seq h3x
          have hul6 : us.length = ks.length := by have := g6.1; omega
          refine nxt_seq ?_
          refine ⟨_, rfl, a, _, _, _, rfl, rfl, h2X, rfl, _, rfl, l_1, D, _, _, rfl, h3X, SqL.of g5, fun D2 hD2 => ?_⟩
          have hD2H : H D2 = none := keep_none kX (fun z => by rw [z, hXl] at hD2; cases hD2) hD2
          refine lc_it (walk_zip (K := K) (a := l_1) (b := D) (xs := bs.map V.ref) (ys := us) (n := us.length) (by rw [List.length_map]; omega)) (fun i X2 => ∃ (G2 : Hp) (cs : List Addr), Same G2 X2 ∧ G2 D2 = none ∧ Same X G2 ∧ X2 D2 = some (.lst (cs.map V.ref)) ∧ cs.length = i ∧
              ∀ (j : Nat) (c : Addr) (n : Str) (u : V), cs[j]? = some c → ls[j]? = some n → us[j]? = some u → SqT K (nw X G2) c [.str n, u])
            ⟨X, [], same_new hD2 _, hD2, Same.refl _, upd_same, rfl, fun j c n u e => by simp at e⟩ (fun i X2 hi ⟨G2, _, k1, _, k3, _⟩ => ⟨(k3.trans k1).seq h3X, SqL.of ((k3.trans k1) _ _ g5)⟩) ?_ ?_
          · rintro i x X2 X3 hi ⟨G2, cs, k1, k2, k3, k4, k5, k6⟩ ⟨T0, y, u, rfl, hT0, rfl, hy, hu⟩
            obtain ⟨b, hb1, hb2, rfl⟩ := get_map hy
            have hnm : ls[i]? = some (ls[i]'(by omega)) := List.getElem?_eq_getElem (by omega)
            have hvv : vs0[i]? = some (vs0[i]'(by omega)) := List.getElem?_eq_getElem (by omega)
            have ST := same_new hT0 (.tup [V.ref b, u])
            have k1' := k1.trans ST
            have k4' := ST _ _ k4
            have ht := (gX.trans (k3.trans k1')).tupS (h7x i b _ _ hb2 hnm hvv)
            refine ⟨T0, _, rfl, SqT.of upd_same, rfl, ?_⟩
            refine ⟨_, _, rfl, ⟨_, _, rfl, rfl, ?_⟩⟩
            refine ⟨rfl, ?_⟩
            refine yes_of (ifTt rfl ?_)
            generalize upd X2 T0 (.tup [V.ref b, u]) = X1 at *
            generalize ls[i]'(by omega) = nm at *
            refine ⟨_, rfl, b, _, _, _, rfl, rfl, ht, at0, _, rfl, sz (by simp), fun pt hpt => ?_⟩
            have St := same_new hpt (.tup [V.str nm, u])
            have ptD : pt ≠ D2 := fun z => by rw [z, k4'] at hpt; cases hpt
            have hptH : X pt = none := (k3.trans k1').fr hpt
            have gg : Same G2 (off D2 (upd X1 pt (.tup [V.str nm, u]))) := (k1'.trans St).off k2
            refine ⟨cs.map V.ref, St _ _ k4', sz (by rw [List.length_map]; omega), off D2 (upd X1 pt (.tup [V.str nm, u])), cs ++ [pt], off_same.wr off_at, off_at, k3.trans gg, ?_, by simp [k5], ?_⟩
            · rw [upd_same, List.map_append]
              rfl
            · intro j' c n' u' e1 e2 e3
              rcases getSnoc e1 with ⟨q1, e1⟩ | ⟨q1, rfl⟩
              · exact (nw_same gg).tupS (k6 j' c n' u' e1 e2 e3)
              · rw [q1, k5, hnm] at e2
                rw [q1, k5] at e3
                rw [show us[i]? = some u from hu] at e3
                injection e2 with e2
                injection e3 with e3
                rw [← e2, ← e3]
                exact SqT.of (by rw [nw_of hptH, off_ne ptD, upd_same])
          · rintro X2 ⟨G2, cs, k1, k2, k3, k4, k5, k6⟩
            refine gn ?_
            have kk2 := k3.trans k1
            have hX2l := kk2 _ _ hXl
            refine ⟨_, rfl, _, rfl, a, _, _, _, rfl, rfl, kk2.tupS h2X, rfl, _, rfl, m, l, _, rfl, hX2l, by omega, fun X4 hE hN => ⟨sz (by simp), fun r hr2 => ?_⟩⟩
            have Sr := same_new hr2 (.tup [V.str "record", .ref D2, tailV (some ((Ty.nums ks s).2.idxOf m))])
            have k24 : Keep l X2 X4 := fun b o hb e => by rw [hE b hb]; exact e
            have kAll := ((kX.same kk2).trans k24).same Sr
            have hrl : r ≠ l := fun z => by rw [z, hN] at hr2; cases hr2
            have hrH : H r = none := keep_none ((kX.same kk2).trans k24) hrl hr2
            have d1 : Same (nw H X) (nw H (upd X4 r (.tup [V.str "record", .ref D2, tailV (some ((Ty.nums ks s).2.idxOf m))]))) := ((nw_same kk2).trans (nw_keepD k24 hlne)).trans (nw_same Sr)
            have d2 : Same (nw X X2) (nw H (upd X4 r (.tup [V.str "record", .ref D2, tailV (some ((Ty.nums ks s).2.idxOf m))]))) := (((nw_inD kX (by rw [hXl]; simp)).trans (nw_keepD k24 hlne))).trans (nw_same Sr)
            refine q _ _ kAll (Sr _ _ hN) ?_
            refine Tr.rcd (us := us) (bs := cs) (SqT.of (un_nw hG _ _ (nw_at hrH))) (SqL.of (un_nw hG _ _ (d2 _ _ ((nw_of hD2).trans k4)))) (by omega) (by omega) (by omega) (fun j c n u e1 e2 e3 => ?_) fun i u t e1 e2 => ?_
            · exact (un_nw hG).tupS (d2.tupS ((nw_same k1).tupS (k6 j c n u e1 e2 e3)))
            · exact (g6.2 i u t e1 e2).same (un_mono (b7.trans d1))
end
end Vt


set_option Elab.async false
set_option linter.all false
set_option maxRecDepth 100000
set_option maxHeartbeats 4000000

namespace Vt
open PySem PySem.Spec PyProof.Rows L2 TL
/-! ### other numbers -/
theorem maps_map (f : Nat → Nat) : ∀ ks : List Ty, Ty.maps f ks = ks.map (Ty.map f)
  | [] => rfl
  | t :: r => by simp only [Ty.maps, maps_map f r, List.map_cons]
theorem growS {D : Addr} {H G X X' : Hp} {L : HO} {us : List V} (g1 : Same G X) (g2 : G D = none) (g3 : Same H G) (eD : X D = some (.lst us)) (k : Same X X') :
    Same (off D X') (upd X' D L) ∧ off D X' D = none ∧ Same H (off D X') ∧ Same (nw H G) (nw H (off D X')) ∧ Same (nw X X') (nw H (off D X')) := by
  have gg : Same G (off D X') := (g1.trans k).off g2
  refine ⟨off_same.wr off_at, off_at, g3.trans gg, nw_same gg, fun b o e => ?_⟩
  obtain ⟨e1, e2⟩ := nw_get e
  rw [nw_of ((g3.trans g1).fr e1), off_ne (fun z => by rw [z, eD] at e1; cases e1)]
  exact e2
theorem nw_inS {H X A : Hp} (k : Same H X) : Same (nw X A) (nw H A) := fun b o e => by
  obtain ⟨e1, e2⟩ := nw_get e
  rw [nw_of (k.fr e1)]
  exact e2
def spOther (K : PySem.W.Frag) (n : Nat) : Sp := fun vs H Q _ => ∃ (v : V) (t : Ty) (d : Addr) (kvs : List (Key × V)) (f : Nat → Nat) (G0 : Hp), vs = [v, .ref d] ∧ H d = some (.dK kvs) ∧ (∀ m ∈ t.marks, valV kvs (.inl (m : Int)) = some (.int (f m : Nat))) ∧ Same G0 H ∧ Tr K G0 v t ∧ Wy t ∧ t.size ≤ 1000 ∧ t.deep ≤ n ∧
  ∀ (r : V) (H' : Hp), Same H H' → Tr K (un G0 (nw H H')) r (t.map f) → Q r H'
theorem mark_map {h : Hy} (e : h.mark = none) (f : Nat → Nat) : h.map f = h := by
  cases h with
  | var n => cases e
  | rcd ls m =>
    obtain rfl : m = none := e
    rfl
  | _ => rfl
theorem marks_kid {ks : List Ty} {t : Ty} (h : t ∈ ks) {m : Nat} (hm : m ∈ t.marks) : m ∈ Ty.markss ks := by
  induction ks with
  | nil => cases h
  | cons u r ih =>
    simp only [Ty.markss, List.mem_append]
    rcases List.mem_cons.mp h with rfl | h
    · exact .inl hm
    · exact .inr (ih h)
abbrev s_law_other : Stmt := topS 59
abbrev N_law_other : List Str := ["tree", "numbers", "some", "one", "field"]
theorem sc_law_other : FnScope N_law_other ["tree", "numbers"] (defScope s_law_other) := ⟨rfl, rfl, rfl, by decide +kernel, rfl, by decide +kernel, by decide +kernel⟩
section
variable {P : Program} {w : World} {K : PySem.W.Frag} {mg : Str → Option Value} {base : Heap}
theorem ok_other0 (S : Stands K mg "_law_other" s_law_other ["tree", "numbers"]) : DefOk P w K mg base CX0 2 "_law_other" ["tree", "numbers"] (spOther K 0) := by
  obtain ⟨f, fd, F, hm, hb⟩ := S
  refine ⟨f, fd, ?_, hm, F.kp, hb⟩
  have nd := sc_law_other.nd
  refine F.ok sc_law_other (fun vs H Q E h => ?_) (fun cdv A outer s0 H vs Q E hr h => ?_)
  · obtain ⟨v, t, d, kvs, f, G0, rfl, _⟩ := h
    rfl
  obtain ⟨v, t, d, kvs, fm, G0, rfl, hd, hf, hG, hT, hW, h1, h3, q⟩ := h
  cases t
  simp only [Ty.deep] at h3
  omega
theorem ok_other {n : Nat} (S : Stands K mg "_law_other" s_law_other ["tree", "numbers"]) (Z : Blt mg) (H_law_other : DefOk P w K mg base CX0 (n + 2) "_law_other" ["tree", "numbers"] (spOther K n))
    (H_law_below : DefOk P w K mg base CX0 1 "_law_below" ["tree"] (spBelowY K)) (H_law_with : DefOk P w K mg base CX0 1 "_law_with" ["tree", "some"] (spWithY K)) : DefOk P w K mg base CX0 (n + 3) "_law_other" ["tree", "numbers"] (spOther K (n + 1)) := by
  have z_zip := Z.zip
  obtain ⟨f, fd, F, hm, hb⟩ := S
  obtain ⟨f_law_other, fd_law_other, G_law_other, m_law_other, k_law_other, b_law_other⟩ := H_law_other
  obtain ⟨f_law_below, fd_law_below, G_law_below, m_law_below, k_law_below, b_law_below⟩ := H_law_below
  obtain ⟨f_law_with, fd_law_with, G_law_with, m_law_with, k_law_with, b_law_with⟩ := H_law_with
  refine ⟨f, fd, ?_, hm, F.kp, hb⟩
  have nd := sc_law_other.nd
  refine F.ok sc_law_other (fun vs H Q E h => ?_) (fun cdv A outer s0 H vs Q E hr h => ?_)
  · obtain ⟨v, t, d, kvs, f, G0, rfl, _⟩ := h
    rfl
  obtain ⟨v, t, d, kvs, fm, G0, rfl, hd, hf, hG, hT, hW, h1, h3, q⟩ := h
  have hu1 : (A.deeper (envOfC "_law_other" (defScope s_law_other) s0.heap.objs.size f cdv)).units + 1 < cLine := by have := hr.un; omega
  refine ⟨_, (pss_cons (ps_setLc (i := 2) (own := [("one", 3)]) (g := gName 3) (tt := tYes) rfl nd rfl rfl (sw_true rfl rfl rfl (by decide +kernel)) (pi_list (pe_call G_law_below (hr.mono (by omega)) rfl m_law_below k_law_below b_law_below .nil pass0 (pa_cons (pv 0) pa_nil))) (blkOk_by (N := N_law_other) (sc := defScope s_law_other) (by decide +kernel)) (fun _ _ _ _ _ => (pg_name (i := 3) nd rfl (Or.inl rfl))) (fun _ _ _ _ _ => pts_nil) (fun _ _ _ _ _ => (pe_call G_law_other (hr.mono (by omega)) rfl m_law_other k_law_other b_law_other .nil pass0 (pa_cons (pv 3) (pa_cons (pv 1) pa_nil)))))
      (pss_cons (ps_if (pt_cmpR op_eq (pe_ix ix_tup (pv 0) pe_int (fun _ _ => rfl)) pe_str (nomark _)) (pss_one (ps_ret (pe_tup (pa_cons pe_str (pa_cons (pe_dget hu1 (pv 1) (pe_ix ix_tup (pv 0) pe_int (fun _ _ => rfl)) (fun _ _ => rfl)) pa_nil))))) pss_nil)
      (pss_cons (ps_if (PW.pt (pw_and (pt_cmpR op_eq (pe_ix ix_tup (pv 0) pe_int (fun _ _ => rfl)) pe_str (nomark _)) (pw_and1 (pt_cmpR op_notN (pe_ix ix_tup (pv 0) pe_int (fun _ _ => rfl)) pe_non (nomark _))))) (pss_one (ps_ret (pe_tup (pa_cons pe_str (pa_cons (pe_lc (own := [("field", 4), ("one", 3)]) (g := gTup K 2 (gCons (gName 4) (gCons (gName 3) gNil))) (tt := tYes) rfl nd (pi_zip (by rfl) z_zip (pa_cons (pe_ix ix_tup (pv 0) pe_int (fun _ _ => rfl)) (pa_cons (pv 2) pa_nil))) (blkOk_by (N := N_law_other) (sc := defScope s_law_other) (by decide +kernel)) (fun _ _ _ _ _ => (pg_tup rfl (pgs_cons (pg_name (i := 4) nd rfl (Or.inl rfl)) (pgs_cons (pg_name (i := 3) nd rfl (Or.inl rfl)) pgs_nil)))) (fun _ _ _ _ _ => pts_nil) (fun _ _ _ _ _ => (pe_tup (pa_cons (pe_ix (r := rIxT K) ix_tup (pv 4) pe_int (fun _ _ => rfl)) (pa_cons (pv 3) pa_nil))))) (pa_cons (pe_dget hu1 (pv 1) (pe_ix ix_tup (pv 0) pe_int (fun _ _ => rfl)) (fun _ _ => rfl)) pa_nil)))))) pss_nil)
      (pss_one (ps_ret (pe_call G_law_with (hr.mono (by omega)) rfl m_law_with k_law_with b_law_with .nil pass0 (pa_cons (pv 0) (pa_cons (pv 2) pa_nil)))))))), ?_⟩
  obtain ⟨a, xs, rfl, hx0⟩ := hT.tuple
  have hx := hG.tupS hx0
  cases t with
  | node h ks =>
  have hsz := h1
  simp only [Ty.size] at h1
  simp only [Ty.deep] at h3
  have hks := ylen_sizes ks
  refine ⟨_, rfl, .ref a, .node h ks, G0, rfl, hG, hT, hW, hsz, fun p vs H1 S1 hp hal => ?_⟩
  have hG1 := hG.trans S1
  have hul : vs.length = ks.length := hal.1
  have stay : ∀ X, Same H1 X → SqL K X p vs := fun X k => by
    rcases hp with hp | ⟨hp, hp2⟩
    · exact (hG1.trans k).seq hp
    · exact SqL.of (k _ _ hp2)
  refine ⟨p, rfl, ⟨_, stay H1 (Same.refl _)⟩, fun D hD => ?_⟩
  have hDH : H D = none := S1.fr hD
  refine lc_list (K := K) (a := p) (xs := vs) (fun i X => ∃ (G : Hp) (us : List V), Same G X ∧ G D = none ∧ Same H1 G ∧ X D = some (.lst us) ∧ Al (fun u t => Tr K (un G0 (nw H G)) u t) us (Ty.maps fm (ks.take i)))
    ⟨H1, [], same_new hD _, hD, Same.refl _, upd_same, al0⟩ (fun i X hi ⟨G, _, g1, _, g3, _⟩ => stay X (g3.trans g1)) ?_ ?_
  · rintro j x X hvj ⟨G, us, g1, g2, g3, g5, g6⟩
    refine gn ?_
    refine ⟨rfl, ?_⟩
    refine yes_of (ifTt rfl ?_)
    have hj := (List.getElem?_eq_some_iff.mp hvj).1
    have htj : ks[j]? = some (ks[j]'(by omega)) := List.getElem?_eq_getElem (by omega)
    have htm := hal.2 j x _ hvj htj
    have hmem := List.getElem_mem (by omega : j < ks.length)
    generalize ks[j]'(by omega) = t at *
    have ek := take_snoc htj
    have hsk := ysize_kid hmem
    have hdk := ydeep_kid hmem
    have sX := S1.trans (g3.trans g1)
    refine ⟨_, rfl, _, rfl, x, t, d, kvs, fm, G0, rfl, sX _ _ hd, (fun m hm => hf m (by simp only [Ty.marks, List.mem_append]; exact .inl (marks_kid hmem hm))), hG.trans sX, htm, hW.kid hmem, by omega, by omega, fun r X' kx tr => ?_⟩
    obtain ⟨b1, b2, b3, b5, b6⟩ := growS (L := .lst (us ++ [r])) g1 g2 (S1.trans g3) g5 kx
    have hul2 := g6.1
    rw [maps_len, List.length_take] at hul2
    refine ⟨us, kx _ _ g5, sz (by omega), off D X', us ++ [r], b1, b2, (g3.trans ((g1.trans kx).off g2)), upd_same, ?_⟩
    rw [ek, maps_map, List.map_append, ← maps_map]
    exact (g6.mono fun u t _ z => z.same (un_mono b5)).snoc (tr.same (un_mono b6))
  · rintro X ⟨G, us, g1, g2, g3, g5, g6⟩
    rw [hul, List.take_length] at g6
    refine gn ?_
    have sX := S1.trans (g3.trans g1)
    have gX := hG.trans sX
    have hxX := gX.tupS hx0
    have hn := maps_len (f := fm) ks
    have b7 := nw_same (H := H) g1
    have wi : h.mark = none → spWithY K [.ref a, .ref D] X Q E0 := fun hm => by
      refine ⟨.ref a, h, ks, Ty.maps fm ks, D, us, un G0 (nw H G), rfl, un_le gX ((nw_sub).trans g1), hT.same un_l, SqL.of g5, g6, hn, by omega, fun r H' S' tr => ?_⟩
      refine q r H' (sX.trans S') ?_
      simp only [Ty.map, mark_map hm]
      exact tr _ (un_mono (b7.trans (nw_same S'))) ((nw_inS sX).trans (un_nw hG))
    refine ⟨_, rfl, a, _, _, _, rfl, rfl, hxX, at0, rfl, _, rfl, ?_⟩
    show (if decide (V.str h.word = V.str "var") = true then _ else _)
    rw [w_var]
    by_cases hv : ∃ n, h = .var n
    · obtain ⟨m, rfl⟩ := hv
      refine ifT rfl ?_
      cases hT with
      | @var _ _ h1x =>
        have hX1 := gX.tupS h1x
        have hg := DGet.k (k := .inl (m : Int)) (sX _ _ hd)
        rw [hf m (by simp [Ty.marks, Hy.mark])] at hg
        refine ⟨_, rfl, _, rfl, a, _, _, _, rfl, rfl, hX1, rfl, d, _, rfl, hg, sz (by simp), fun r hr2 => ?_⟩
        exact q _ _ (sX.trans (same_new hr2 _)) (.var (SqT.of (un_nw hG _ _ (nw_at (sX.fr hr2)))))
    · refine ifF (by cases h <;> first | rfl | exact absurd ⟨_, rfl⟩ hv) ?_
      refine ⟨_, rfl, a, _, _, _, rfl, rfl, hxX, at0, rfl, _, rfl, ?_⟩
      show (if decide (V.str h.word = V.str "record") = true then _ else _)
      rw [w_rec]
      by_cases hm : h.mark = none
      · by_cases hr : ∃ ls m, h = .rcd ls m
        · obtain ⟨ls, m, rfl⟩ := hr
          obtain rfl : m = none := hm
          cases hT with
          | @rcd _ _ bs vs0 _ _ _ h2x h3x h4x h5x h6x h7x h8x =>
            refine ifT rfl ?_
            refine ⟨_, rfl, a, _, _, _, rfl, rfl, gX.tupS h2x, rfl, rfl, _, rfl, ?_⟩
            refine ifF rfl ?_
            exact ⟨_, rfl, _, rfl, wi rfl⟩
        · refine ifF (by cases h <;> first | rfl | exact absurd ⟨_, _, rfl⟩ hr) ?_
          dsimp only
          refine ifF rfl ?_
          exact ⟨_, rfl, _, rfl, wi hm⟩
      · have hr : ∃ ls m, h = .rcd ls (some m) := by
          cases h with
          | rcd ls m =>
            cases m with
            | none => exact absurd rfl hm
            | some m => exact ⟨_, _, rfl⟩
          | var n => exact absurd ⟨_, rfl⟩ hv
          | _ => exact absurd rfl hm
        obtain ⟨ls, m, rfl⟩ := hr
        cases hT with
        | @rcd _ l_1 bs vs0 _ _ _ h2x h3x h4x h5x h6x h7x h8x =>
          refine ifT rfl ?_
          refine ⟨_, rfl, a, _, _, _, rfl, rfl, gX.tupS h2x, rfl, rfl, _, rfl, ?_⟩
          refine ifT rfl ?_
          have h2X := gX.tupS h2x
          have h3X := gX.seq h3x
          have hul6 : us.length = ks.length := by have := g6.1; omega
          refine ⟨_, rfl, a, _, _, _, rfl, rfl, h2X, rfl, _, rfl, l_1, D, _, _, rfl, h3X, SqL.of g5, fun D2 hD2 => ?_⟩
          refine lc_it (walk_zip (K := K) (a := l_1) (b := D) (xs := bs.map V.ref) (ys := us) (n := us.length) (by rw [List.length_map]; omega)) (fun i X2 => ∃ (G2 : Hp) (cs : List Addr), Same G2 X2 ∧ G2 D2 = none ∧ Same X G2 ∧ X2 D2 = some (.lst (cs.map V.ref)) ∧ cs.length = i ∧
              ∀ (j : Nat) (c : Addr) (n : Str) (u : V), cs[j]? = some c → ls[j]? = some n → us[j]? = some u → SqT K (nw X G2) c [.str n, u])
            ⟨X, [], same_new hD2 _, hD2, Same.refl _, upd_same, rfl, fun j c n u e => by simp at e⟩ (fun i X2 hi ⟨G2, _, k1, _, k3, _⟩ => ⟨(k3.trans k1).seq h3X, SqL.of ((k3.trans k1) _ _ g5)⟩) ?_ ?_
          · rintro i x X2 X3 hi ⟨G2, cs, k1, k2, k3, k4, k5, k6⟩ ⟨T0, y, u, rfl, hT0, rfl, hy, hu⟩
            obtain ⟨b, hb1, hb2, rfl⟩ := get_map hy
            have hnm : ls[i]? = some (ls[i]'(by omega)) := List.getElem?_eq_getElem (by omega)
            have hvv : vs0[i]? = some (vs0[i]'(by omega)) := List.getElem?_eq_getElem (by omega)
            have ST := same_new hT0 (.tup [V.ref b, u])
            have k1' := k1.trans ST
            have k4' := ST _ _ k4
            have ht := (gX.trans (k3.trans k1')).tupS (h7x i b _ _ hb2 hnm hvv)
            refine ⟨T0, _, rfl, SqT.of upd_same, rfl, ?_⟩
            refine ⟨_, _, rfl, ⟨_, _, rfl, rfl, ?_⟩⟩
            refine ⟨rfl, ?_⟩
            refine yes_of (ifTt rfl ?_)
            generalize upd X2 T0 (.tup [V.ref b, u]) = X1 at *
            generalize ls[i]'(by omega) = nm at *
            refine ⟨_, rfl, b, _, _, _, rfl, rfl, ht, at0, _, rfl, sz (by simp), fun pt hpt => ?_⟩
            have St := same_new hpt (.tup [V.str nm, u])
            have ptD : pt ≠ D2 := fun z => by rw [z, k4'] at hpt; cases hpt
            have hptH : X pt = none := (k3.trans k1').fr hpt
            have gg : Same G2 (off D2 (upd X1 pt (.tup [V.str nm, u]))) := (k1'.trans St).off k2
            refine ⟨cs.map V.ref, St _ _ k4', sz (by rw [List.length_map]; omega), off D2 (upd X1 pt (.tup [V.str nm, u])), cs ++ [pt], off_same.wr off_at, off_at, k3.trans gg, ?_, by simp [k5], ?_⟩
            · rw [upd_same, List.map_append]
              rfl
            · intro j' c n' u' e1 e2 e3
              rcases getSnoc e1 with ⟨q1, e1⟩ | ⟨q1, rfl⟩
              · exact (nw_same gg).tupS (k6 j' c n' u' e1 e2 e3)
              · rw [q1, k5, hnm] at e2
                rw [q1, k5] at e3
                rw [show us[i]? = some u from hu] at e3
                injection e2 with e2
                injection e3 with e3
                rw [← e2, ← e3]
                exact SqT.of (by rw [nw_of hptH, off_ne ptD, upd_same])
          · rintro X2 ⟨G2, cs, k1, k2, k3, k4, k5, k6⟩
            have kk2 := k3.trans k1
            have sX2 := sX.trans kk2
            have hg := DGet.k (k := .inl (m : Int)) (sX2 _ _ hd)
            rw [hf m (by simp [Ty.marks, Hy.mark])] at hg
            refine ⟨_, rfl, _, rfl, a, _, _, _, rfl, rfl, kk2.tupS h2X, rfl, d, _, rfl, hg, sz (by simp), fun r hr2 => ?_⟩
            have Sr := same_new hr2 (.tup [V.str "record", .ref D2, tailV (some (fm m))])
            have d1 : Same (nw H X) (nw H (upd X2 r (.tup [V.str "record", .ref D2, tailV (some (fm m))]))) := (nw_same kk2).trans (nw_same Sr)
            have d2 : Same (nw X X2) (nw H (upd X2 r (.tup [V.str "record", .ref D2, tailV (some (fm m))]))) := (nw_inS sX).trans (nw_same Sr)
            refine q _ _ (sX2.trans Sr) ?_
            refine Tr.rcd (us := us) (bs := cs) (SqT.of (un_nw hG _ _ (nw_at (sX2.fr hr2)))) (SqL.of (un_nw hG _ _ (d2 _ _ ((nw_of hD2).trans k4)))) (by omega) (by omega) (by omega) (fun j c n u e1 e2 e3 => ?_) fun i u t e1 e2 => ?_
            · exact (un_nw hG).tupS (d2.tupS ((nw_same k1).tupS (k6 j c n u e1 e2 e3)))
            · exact (g6.2 i u t e1 e2).same (un_mono (b7.trans d1))
end
end Vt


set_option Elab.async false
set_option linter.all false
set_option maxRecDepth 100000
set_option maxHeartbeats 4000000

namespace Vt
open PySem PySem.Spec PyProof.Rows L2 TL
/-! ### paths, and a tree with another one at a path -/
def Ty.sub : Ty → List Nat → Option Ty
  | t, [] => some t
  | .node _ ks, i :: q => match ks[i]? with
    | some k => k.sub q
    | none => none
def Ty.put : Ty → List Nat → Ty → Ty
  | _, [], u => u
  | .node h ks, i :: q, u => match ks[i]? with
    | some k => .node h (ks.set i (k.put q u))
    | none => .node h ks
theorem sub_len : ∀ (q : List Nat) (t u : Ty), t.sub q = some u → q.length + u.size ≤ t.size
  | [], t, u, e => by
    have : t = u := by simpa [Ty.sub] using e
    rw [this]
    simp
  | i :: q, .node h ks, u, e => by
    simp only [Ty.sub] at e
    cases ek : ks[i]? with
    | none => rw [ek] at e; cases e
    | some k =>
      rw [ek] at e
      have h1 := sub_len q k u e
      have h2 := ysize_kid (List.mem_of_getElem? ek)
      simp only [Ty.size, List.length_cons]
      omega
theorem dpNums {K : PySem.W.Frag} {H : Hp} : ∀ q : List Nat, DpAll K H (nums q) (q.map fun (n : Nat) => PyData.int (n : Int))
  | [] => .nil
  | n :: r => .cons (.int _) (dpNums r)
theorem nums_lay : ∀ q : List Nat, PyData.canLayAll0 (q.map fun (n : Nat) => PyData.int (n : Int)) = true
  | [] => by simp [PyData.canLayAll0]
  | n :: r => by simp only [List.map_cons, PyData.canLayAll0, PyData.canLay0, nums_lay r, Bool.and_self]
theorem nums_depth : ∀ q : List Nat, PyData.depthAll (q.map fun (n : Nat) => PyData.int (n : Int)) ≤ 2
  | [] => by simp [PyData.depthAll]
  | n :: r => by
    have := nums_depth r
    simp only [List.map_cons, PyData.depthAll, PyData.depth]
    omega
theorem nums_shaped (q : List Nat) : SeqAt.shaped (.tuple (q.map fun (n : Nat) => PyData.int (n : Int))) = true := by
  have h := nums_depth q
  show (PyData.canLay0 (.tuple _) && decide (PyData.depth (.tuple _) ≤ 64)) = true
  rw [Bool.and_eq_true]
  exact ⟨by simp only [PyData.canLay0]; exact nums_lay q, decide_eq_true (by simp only [PyData.depth]; omega)⟩
theorem sIx1 {i : Nat} {qr : List Nat} : HT.sIx (nums (i :: qr)).length 0 (some 1) = 1 := by
  show min 1 _ = 1
  unfold nums
  rw [List.length_map, List.length_cons]
  omega
theorem cut_not {i : Nat} {qr : List Nat} (h : HT.sIx (nums (i :: qr)).length 0 (some 1) = 0) : False := by
  rw [sIx1] at h
  omega
theorem cut_tail {i : Nat} {qr : List Nat} : cutV (nums (i :: qr)) (some 1) none = nums qr := by
  unfold cutV
  rw [sIx1]
  have h2 : HT.sIx (nums (i :: qr)).length (nums (i :: qr)).length none = (nums (i :: qr)).length := rfl
  rw [h2]
  show List.take _ (nums qr) = nums qr
  exact List.take_of_length_le (by unfold nums; simp)
theorem ix_self {n j : Nat} (hj : j < n) : ixN n (j : Int) = some j := by
  unfold ixN
  rw [if_pos (by omega), if_pos (by omega)]
  simp
def isPath (K : PySem.W.Frag) (H : Hp) (t : Ty) (x : V) : Prop := ∃ (a : Addr) (q : List Nat), x = .ref a ∧ SqT K H a (nums q) ∧ ∃ u, t.sub q = some u
theorem isPath.same {K : PySem.W.Frag} {H H' : Hp} {t : Ty} {x : V} (h : isPath K H t x) (s : Same H H') : isPath K H' t x := by
  obtain ⟨a, q, e, h1, h2⟩ := h
  exact ⟨a, q, e, s.tupS h1, h2⟩
def spPaths (K : PySem.W.Frag) (n : Nat) : Sp := fun vs H Q _ => ∃ (v : V) (t : Ty) (G0 : Hp), vs = [v] ∧ Same G0 H ∧ Tr K G0 v t ∧ Wy t ∧ t.size ≤ 1000 ∧ t.deep ≤ n ∧
  ∀ (p : Addr) (xs : List V) (H' : Hp), Same H H' → H p = none → H' p = some (.lst xs) → xs.length = t.size → (∀ x ∈ xs, isPath K H' t x) → Q (.ref p) H'
def spPut (K : PySem.W.Frag) (n : Nat) : Sp := fun vs H Q _ => ∃ (v : V) (t : Ty) (pa : Addr) (qs : List Nat) (u : V) (t2 : Ty) (G0 : Hp), vs = [v, .ref pa, u] ∧ Same G0 H ∧ Tr K G0 v t ∧ Wy t ∧ t.size ≤ 1000 ∧ t.deep ≤ n ∧ SqT K H pa (nums qs) ∧ (∃ z, t.sub qs = some z) ∧ Tr K G0 u t2 ∧
  ∀ (r : V) (H' : Hp), Same H H' → Tr K (un G0 (nw H H')) r (t.put qs t2) → Q r H'
abbrev s_law_paths : Stmt := topS 55
abbrev N_law_paths : List Str := ["tree", "found", "at", "one", "path"]
theorem sc_law_paths : FnScope N_law_paths ["tree"] (defScope s_law_paths) := ⟨rfl, rfl, rfl, by decide +kernel, rfl, by decide +kernel, by decide +kernel⟩
abbrev s_law_put : Stmt := topS 56
abbrev N_law_put : List Str := ["tree", "path", "value", "some"]
theorem sc_law_put : FnScope N_law_put ["tree", "path", "value"] (defScope s_law_put) := ⟨rfl, rfl, rfl, by decide +kernel, rfl, by decide +kernel, by decide +kernel⟩
section
variable {P : Program} {w : World} {K : PySem.W.Frag} {mg : Str → Option Value} {base : Heap}
theorem ok_paths0 (S : Stands K mg "_law_paths" s_law_paths ["tree"]) : DefOk P w K mg base CX0 2 "_law_paths" ["tree"] (spPaths K 0) := by
  obtain ⟨f, fd, F, hm, hb⟩ := S
  refine ⟨f, fd, ?_, hm, F.kp, hb⟩
  have nd := sc_law_paths.nd
  refine F.ok sc_law_paths (fun vs H Q E h => ?_) (fun cdv A outer s0 H vs Q E hr h => ?_)
  · obtain ⟨v, t, G0, rfl, _⟩ := h
    rfl
  obtain ⟨v, t, G0, rfl, hG, hT, hW, h1, h3, q⟩ := h
  cases t
  simp only [Ty.deep] at h3
  omega
theorem ok_paths {n : Nat} (S : Stands K mg "_law_paths" s_law_paths ["tree"]) (Z : Blt mg) (H_law_paths : DefOk P w K mg base CX0 (n + 2) "_law_paths" ["tree"] (spPaths K n)) (H_law_below : DefOk P w K mg base CX0 1 "_law_below" ["tree"] (spBelowY K)) : DefOk P w K mg base CX0 (n + 3) "_law_paths" ["tree"] (spPaths K (n + 1)) := by
  have z_enumerate := Z.enumerate
  obtain ⟨f, fd, F, hm, hb⟩ := S
  obtain ⟨f_law_paths, fd_law_paths, G_law_paths, m_law_paths, k_law_paths, b_law_paths⟩ := H_law_paths
  obtain ⟨f_law_below, fd_law_below, G_law_below, m_law_below, k_law_below, b_law_below⟩ := H_law_below
  refine ⟨f, fd, ?_, hm, F.kp, hb⟩
  have nd := sc_law_paths.nd
  refine F.ok sc_law_paths (fun vs H Q E h => ?_) (fun cdv A outer s0 H vs Q E hr h => ?_)
  · obtain ⟨v, t, G0, rfl, _⟩ := h
    rfl
  obtain ⟨v, t, G0, rfl, hG, hT, hW, h1, h3, q⟩ := h
  refine ⟨_, (pss_cons (ps_set (i := 1) nd rfl (Or.inl rfl) (pe_lst (pa_cons (pe_tup pa_nil) pa_nil)))
      (pss_cons (ps_for PassesOwn.never rfl (pi_enum (by rfl) z_enumerate (pa_cons (pe_call G_law_below (hr.mono (by omega)) rfl m_law_below k_law_below b_law_below .nil pass0 (pa_cons (pv 0) pa_nil)) pa_nil)) (pg_tup rfl (pgs_cons (pg_name (i := 2) nd rfl (Or.inr rfl)) (pgs_cons (pg_name (i := 3) nd rfl (Or.inl rfl)) pgs_nil))) (pss_one (ps_set (i := 1) nd rfl (Or.inl rfl) (pe_op op_cat (pv 1) (pe_lc (own := [("path", 4)]) (g := gName 4) (tt := tYes) rfl nd (pi_list (pe_call G_law_paths (hr.mono (by omega)) rfl m_law_paths k_law_paths b_law_paths .nil pass0 (pa_cons (pv 3) pa_nil))) (blkOk_by (N := N_law_paths) (sc := defScope s_law_paths) (by decide +kernel)) (fun _ _ _ _ _ => (pg_name (i := 4) nd rfl (Or.inl rfl))) (fun _ _ _ _ _ => pts_nil) (fun _ _ _ _ _ => (pe_op (r := rCatT K) op_catT (pe_tup (pa_cons (pv 2) pa_nil)) (pv 4))))))))
      (pss_one (ps_ret (pv 1))))), ?_⟩
  cases t with
  | node h ks =>
  have hsz := h1
  simp only [Ty.size] at h1
  simp only [Ty.deep] at h3
  refine ⟨sz (by simp), fun p0 hp0 => ⟨sz (by simp), fun F0 hF0 => ?_⟩⟩
  have S0 := same_new hp0 (.tup [])
  have SF := same_new hF0 (.lst [V.ref p0])
  have e0 := SF _ _ (@upd_same H p0 (.tup []))
  have eF := @upd_same (upd H p0 (.tup [])) F0 (.lst [V.ref p0])
  have hF0H := S0.fr hF0
  have SS := S0.trans SF
  refine gn ?_
  generalize upd (upd H p0 (.tup [])) F0 (.lst [V.ref p0]) = H0 at *
  refine ⟨_, rfl, v, .node h ks, G0, rfl, hG.trans SS, hT, hW, hsz, fun p us H1 S1 hp hal => ?_⟩
  have hG1 := hG.trans (SS.trans S1)
  have hul : us.length = ks.length := hal.1
  have stay : ∀ X, Same H1 X → SqL K X p us := fun X k => by
    rcases hp with hp | ⟨hp, hp2⟩
    · exact (hG1.trans k).seq hp
    · exact SqL.of (k _ _ hp2)
  refine ⟨p, us, rfl, stay H1 (Same.refl _), ?_⟩
  refine for_it (walk_enum (K := K) (a := p) (xs := us)) (fun i σ X => ∃ (F : Addr) (xs : List V) (s2 s3 s4 : Option V), σ = [some v, some (.ref F), s2, s3, s4] ∧ Same H1 X ∧ H F = none ∧ X F = some (.lst xs) ∧ xs.length = 1 + Ty.sizes (ks.take i) ∧ ∀ x ∈ xs, isPath K X (.node h ks) x)
    ⟨F0, [.ref p0], _, _, _, rfl, Same.refl _, hF0H, S1 _ _ eF, by simp [Ty.sizes], fun x hx => ?_⟩ (fun i σ X hi ⟨_, _, _, _, _, _, g1, _⟩ => stay X g1) ?_ ?_
  · rw [List.mem_singleton.mp hx]
    exact ⟨p0, [], rfl, SqT.of (S1 _ _ e0), _, rfl⟩
  · rintro i x σ X X' hi ⟨F, xs, s2, s3, s4, rfl, g1, gF, g2, g3, g4⟩ ⟨T0, y, u, rfl, hT0, rfl, hy, hu⟩
    cases hy
    have ST := same_new hT0 (.tup [V.int (i : Nat), u])
    refine ⟨T0, _, rfl, SqT.of upd_same, rfl, ?_⟩
    refine ⟨_, _, rfl, ⟨_, _, rfl, rfl, ?_⟩⟩
    generalize upd X T0 (.tup [V.int (i : Nat), u]) = X1 at *
    have g1' := g1.trans ST
    have hti : ks[i]? = some (ks[i]'(by omega)) := List.getElem?_eq_getElem (by omega)
    have htm := hal.2 i u _ hu hti
    have hmem := List.getElem_mem (by omega : i < ks.length)
    generalize ks[i]'(by omega) = t at *
    have ek := take_snoc hti
    have hsk := ysize_kid hmem
    have hdk := ydeep_kid hmem
    have hst2 := ysizes_take ks (i + 1)
    rw [ek, ysizes_app] at hst2
    simp only [Ty.sizes] at hst2
    refine ⟨_, rfl, _, rfl, u, t, G0, rfl, hG1.trans g1', htm, hW.kid hmem, by omega, by omega, fun p2 ys X2 S2 hp2 ep2 len2 val2 => ?_⟩
    refine ⟨p2, rfl, ⟨_, SqL.of ep2⟩, fun D hD => ?_⟩
    have eF2 := S2 _ _ (ST _ _ g2)
    refine lc_list (K := K) (a := p2) (xs := ys) (fun j Y => ∃ (G : Hp) (as : List V), Same G Y ∧ G D = none ∧ Same X2 G ∧ Y D = some (.lst as) ∧ as.length = j ∧ ∀ x ∈ as, isPath K G (.node h ks) x)
      ⟨X2, [], same_new hD _, hD, Same.refl _, upd_same, rfl, fun x hx => by cases hx⟩ (fun j Y hj ⟨G, _, k1, _, k3, _⟩ => SqL.of ((k3.trans k1) _ _ ep2)) ?_ ?_
    · rintro j x Y hx ⟨G, as, k1, k2, k3, k4, k5, k6⟩
      have hj := (List.getElem?_eq_some_iff.mp hx).1
      obtain ⟨b, q', rfl, hb, z, hz⟩ := val2 x (List.mem_of_getElem? hx)
      have hql := sub_len q' t z hz
      have hbY := (k3.trans k1).tupS hb
      refine gn ?_
      refine ⟨rfl, ?_⟩
      refine yes_of (ifTt rfl ?_)
      refine ⟨_, rfl, sz (by simp), fun pt hpt => ⟨_, rfl, pt, b, [V.int (i : Nat)], nums q', rfl, rfl, SqT.of upd_same, (same_new hpt _).tupS hbY, by simp, sz (by unfold nums; rw [List.length_map]; simp only [List.length_cons, List.length_nil]; omega), fun eq => ?_, fun nq r hr2 => ?_⟩⟩
      · have St := same_new hpt (.tup [V.int (i : Nat)])
        have gg : Same G (off D (upd Y pt (.tup [V.int (i : Nat)]))) := (k1.trans St).off k2
        have ptD : pt ≠ D := fun z => by rw [z, k4] at hpt; cases hpt
        refine ⟨as, St _ _ k4, sz (by omega), off D (upd Y pt (.tup [V.int (i : Nat)])), as ++ [.ref pt], off_same.wr off_at, off_at, k3.trans gg, upd_same, by simp [k5], fun x hx => ?_⟩
        rcases List.mem_append.mp hx with hx | hx
        · exact (k6 x hx).same gg
        · rw [List.mem_singleton.mp hx]
          have q0 : q' = [] := by cases q' with
            | nil => rfl
            | cons _ _ => cases eq
          subst q0
          exact ⟨pt, [i], rfl, SqT.of (by rw [off_ne ptD, upd_same]; rfl), z, by simp only [Ty.sub, hti]; exact hz⟩
      · have St := same_new hpt (.tup [V.int (i : Nat)])
        have Sr := same_new hr2 (.tup ([V.int (i : Nat)] ++ nums q'))
        have SS := St.trans Sr
        have gg : Same G (off D (upd (upd Y pt (.tup [V.int (i : Nat)])) r (.tup ([V.int (i : Nat)] ++ nums q')))) := (k1.trans SS).off k2
        have rD : r ≠ D := fun z => by rw [z, St _ _ k4] at hr2; cases hr2
        refine ⟨as, SS _ _ k4, sz (by omega), off D _, as ++ [.ref r], off_same.wr off_at, off_at, k3.trans gg, upd_same, by simp [k5], fun x hx => ?_⟩
        rcases List.mem_append.mp hx with hx | hx
        · exact (k6 x hx).same gg
        · rw [List.mem_singleton.mp hx]
          exact ⟨r, i :: q', rfl, SqT.of (by rw [off_ne rD, upd_same]; rfl), z, by simp only [Ty.sub, hti]; exact hz⟩
    · rintro Y ⟨G, as, k1, k2, k3, k4, k5, k6⟩
      have SY := k3.trans k1
      refine ⟨F, D, xs, as, rfl, rfl, SY _ _ eF2, k4, sz (by omega), fun r hr2 => ?_⟩
      have Sr := same_new hr2 (.lst (xs ++ as))
      have sAll := ((g1'.trans S2).trans SY).trans Sr
      refine gn ?_
      refine ⟨r, xs ++ as, _, _, _, rfl, sAll, (SS.trans (S1.trans (g1'.trans (S2.trans SY)))).fr hr2, upd_same, ?_, fun x hx => ?_⟩
      · rw [ek, ysizes_app, List.length_append]
        simp only [Ty.sizes]
        omega
      · rcases List.mem_append.mp hx with hx | hx
        · exact (g4 x hx).same (((ST.trans S2).trans SY).trans Sr)
        · exact (k6 x hx).same (k1.trans Sr)
  · rintro σ X ⟨F, xs, s2, s3, s4, rfl, g1, gF, g2, g3, g4⟩
    rw [hul, List.take_length] at g3
    exact ⟨_, rfl, q F xs X (SS.trans (S1.trans g1)) gF g2 (by simp only [Ty.size]; exact g3) g4⟩
theorem ok_put0 (S : Stands K mg "_law_put" s_law_put ["tree", "path", "value"]) : DefOk P w K mg base CX0 2 "_law_put" ["tree", "path", "value"] (spPut K 0) := by
  obtain ⟨f, fd, F, hm, hb⟩ := S
  refine ⟨f, fd, ?_, hm, F.kp, hb⟩
  have nd := sc_law_put.nd
  refine F.ok sc_law_put (fun vs H Q E h => ?_) (fun cdv A outer s0 H vs Q E hr h => ?_)
  · obtain ⟨v, t, pa, qs, u, t2, G0, rfl, _⟩ := h
    rfl
  obtain ⟨v, t, pa, qs, u, t2, G0, rfl, hG, hT, hW, h1, h3, hpa, hsub, hU, q⟩ := h
  cases t
  simp only [Ty.deep] at h3
  omega
theorem ok_put {n : Nat} (S : Stands K mg "_law_put" s_law_put ["tree", "path", "value"]) (Z : Blt mg) (H_law_put : DefOk P w K mg base CX0 (n + 2) "_law_put" ["tree", "path", "value"] (spPut K n)) (H_law_below : DefOk P w K mg base CX0 1 "_law_below" ["tree"] (spBelowY K)) (H_law_with : DefOk P w K mg base CX0 1 "_law_with" ["tree", "some"] (spWithY K)) :
    DefOk P w K mg base CX0 (n + 3) "_law_put" ["tree", "path", "value"] (spPut K (n + 1)) := by
  have z_list := Z.list
  obtain ⟨f, fd, F, hm, hb⟩ := S
  obtain ⟨f_law_put, fd_law_put, G_law_put, m_law_put, k_law_put, b_law_put⟩ := H_law_put
  obtain ⟨f_law_below, fd_law_below, G_law_below, m_law_below, k_law_below, b_law_below⟩ := H_law_below
  obtain ⟨f_law_with, fd_law_with, G_law_with, m_law_with, k_law_with, b_law_with⟩ := H_law_with
  refine ⟨f, fd, ?_, hm, F.kp, hb⟩
  have nd := sc_law_put.nd
  refine F.ok sc_law_put (fun vs H Q E h => ?_) (fun cdv A outer s0 H vs Q E hr h => ?_)
  · obtain ⟨v, t, pa, qs, u, t2, G0, rfl, _⟩ := h
    rfl
  obtain ⟨v, t, pa, qs, u, t2, G0, rfl, hG, hT, hW, h1, h3, hpa, hsub, hU, q⟩ := h
  refine ⟨_, (pss_cons (ps_if (pt_cmpR (op_eqD hr.units) (pv 1) (pe_tup pa_nil) (nomark _)) (pss_one (ps_ret (pv 2))) pss_nil)
      (pss_cons (ps_set (i := 3) nd rfl (Or.inl rfl) (pe_callTy call_list_of (by rfl) z_list (by decide +kernel) (pa_cons (pe_call G_law_below (hr.mono (by omega)) rfl m_law_below k_law_below b_law_below .nil pass0 (pa_cons (pv 0) pa_nil)) pa_nil)))
      (pss_cons (ps_asg (pe_call G_law_put (hr.mono (by omega)) rfl m_law_put k_law_put b_law_put .nil pass0 (pa_cons (pe_ix ix_list (pv 3) (pe_ix ix_tup (pv 1) pe_int (fun _ _ => rfl)) (fun _ _ => rfl)) (pa_cons (pe_slice sl_tup (pv 1) (po_some pe_int) po_none) (pa_cons (pv 2) pa_nil)))) (pg_sub (pv 3) (pe_ix ix_tup (pv 1) pe_int (fun _ _ => rfl)) set_list))
      (pss_one (ps_ret (pe_call G_law_with (hr.mono (by omega)) rfl m_law_with k_law_with b_law_with .nil pass0 (pa_cons (pv 0) (pa_cons (pv 3) pa_nil)))))))), ?_⟩
  refine ⟨_, rfl, sz (by simp), fun e he => ?_⟩
  have Se := same_new he (.tup [])
  have eE := @upd_same H e (.tup [])
  generalize upd H e (.tup []) = H0 at *
  refine ⟨.tuple (qs.map fun (n : Nat) => PyData.int (n : Int)), .tuple [], .tup (Se.tupS hpa) (dpNums qs), .tup (SqT.of eE) .nil, nums_shaped qs, nums_shaped [], _, rfl, ?_⟩
  cases qs with
  | nil =>
    refine ifT (by simp [PyData.eqv, PyData.eqvAll]) ?_
    exact ⟨_, rfl, q u H0 Se (hU.same un_l)⟩
  | cons i qr =>
    refine ifF (by simp [PyData.eqv, PyData.eqvAll]) ?_
    cases t with
    | node h ks =>
    have hsz := h1
    simp only [Ty.size] at h1
    simp only [Ty.deep] at h3
    obtain ⟨z, hz⟩ := hsub
    simp only [Ty.sub] at hz
    cases eki : ks[i]? with
    | none => rw [eki] at hz; cases hz
    | some kid =>
    rw [eki] at hz
    have hik := (List.getElem?_eq_some_iff.mp eki).1
    have hmem := List.mem_of_getElem? eki
    have hsk := ysize_kid hmem
    have hdk := ydeep_kid hmem
    have hks := ylen_sizes ks
    refine ⟨_, rfl, v, .node h ks, G0, rfl, hG.trans Se, hT, hW, hsz, fun p us H1 S1 hp hal => ?_⟩
    have hG1 := hG.trans (Se.trans S1)
    have hul : us.length = ks.length := hal.1
    have hpq : SqL K H1 p us := by
      rcases hp with hp | ⟨hp, hp2⟩
      · exact hG1.seq hp
      · exact SqL.of hp2
    refine ⟨p, us, rfl, .inl hpq, fun D hD => ?_⟩
    have SD := same_new hD (.lst us)
    have eD := @upd_same H1 D (.lst us)
    have hHD : H D = none := (Se.trans S1).fr hD
    have S2 := (Se.trans S1).trans SD
    refine gn ?_
    generalize upd H1 D (.lst us) = H2 at *
    have hpa2 := S2.tupS hpa
    have hui : us[i]? = some (us[i]'(by omega)) := List.getElem?_eq_getElem (by omega)
    have htm := hal.2 i _ _ hui eki
    generalize us[i]'(by omega) = ui at *
    refine ⟨_, rfl, _, rfl, pa, _, _, _, rfl, rfl, hpa2, at0, D, us, _, _, rfl, rfl, SqL.of eD, atI_nat hui, _, rfl, _, rfl, pa, _, rfl, hpa2, (fun z' => cut_not z'.1), fun ps hps => ?_⟩
    have Sp := same_new hps (.tup (cutV (nums (i :: qr)) (some 1) none))
    have eps := @upd_same H2 ps (.tup (cutV (nums (i :: qr)) (some 1) none))
    have S3 := S2.trans Sp
    have eD3 := Sp _ _ eD
    generalize upd H2 ps (.tup (cutV (nums (i :: qr)) (some 1) none)) = H3 at *
    have ecut : cutV (nums (i :: qr)) (some 1) none = nums qr := cut_tail
    rw [ecut] at eps
    refine ⟨_, rfl, ui, kid, ps, qr, u, t2, G0, rfl, hG.trans S3, htm, hW.kid hmem, by omega, by omega, SqT.of eps, ⟨z, hz⟩, hU, fun r X S4 tr => ?_⟩
    have eD4 := S4 _ _ eD3
    refine ⟨_, rfl, _, rfl, pa, _, _, _, rfl, rfl, (S3.trans S4).tupS hpa, at0, D, us, (i : Int), i, rfl, rfl, eD4, ix_self (by omega), ?_⟩
    have HD3 : H3 D ≠ none := by rw [eD3]; simp
    have kD : ∀ b o, b ≠ D → X b = some o → upd X D (.lst (us.set i r)) b = some o := fun b o hb e => by rw [upd_ne hb]; exact e
    have hGD : G0 D = none := hG.fr hHD
    have gX : Same G0 (upd X D (.lst (us.set i r))) := fun b o e => kD b o (fun z => by rw [z, hGD] at e; cases e) ((hG.trans (S3.trans S4)) _ _ e)
    have nX : Same (nw H3 X) (upd X D (.lst (us.set i r))) := fun b o e => by
      obtain ⟨e1, e2⟩ := nw_get e
      exact kD b o (fun z => HD3 (by rw [← z]; exact e1)) e2
    refine ⟨_, rfl, _, rfl, v, h, ks, ks.set i (kid.put qr t2), D, us.set i r, un G0 (nw H3 X), rfl, un_le gX nX, hT.same un_l, SqL.of upd_same, ⟨by simp [hul], fun j x y e1 e2 => ?_⟩, by simp, by omega, fun r2 H5 S5 tr2 => ?_⟩
    · rw [List.getElem?_set] at e1 e2
      by_cases c : i = j
      · rw [if_pos c] at e1 e2
        rw [if_pos (by omega)] at e1 e2
        injection e1 with e1
        injection e2 with e2
        rw [← e1, ← e2]
        exact tr
      · rw [if_neg c] at e1 e2
        exact (hal.2 j x y e1 e2).same un_l
    · refine q r2 H5 (fun b o e => S5 _ _ (kD b o (fun z => by rw [z, hHD] at e; cases e) ((S3.trans S4) _ _ e))) ?_
      simp only [Ty.put, eki]
      refine tr2 _ (un_mono fun b o e => ?_) fun b o e => un_nw hG _ _ ?_
      · obtain ⟨e1, e2⟩ := nw_get e
        rw [nw_of (S3.fr e1)]
        exact S5 _ _ (kD b o (fun z => HD3 (by rw [← z]; exact e1)) e2)
      · obtain ⟨e1, e2⟩ := nw_get e
        have nb : b ≠ D := fun z => by rw [z, upd_same] at e1; cases e1
        rw [upd_ne nb] at e1
        rw [nw_of ((S3.trans S4).fr e1)]
        exact e2
end
end Vt


set_option Elab.async false
set_option linter.all false
set_option maxRecDepth 100000
set_option maxHeartbeats 4000000

namespace Vt
open PySem PySem.Spec PyProof.Rows L2 TL
/-! ### trees of the law -/
structure Lw (lab : Nat → Option (List Str)) (t : Ty) : Prop where
  gd : Gd lab t
  sz : t.size ≤ 1000
  dp : t.deep ≤ 90
  dd : t.dd ≤ 56
theorem Lw.gt {lab : Nat → Option (List Str)} {t : Ty} (l : Lw lab t) : Gt lab t := ⟨l.gd, l.sz, Nat.le_trans l.dp (by decide)⟩
theorem fit_n {lab : Nat → Option (List Str)} {h : Hy} (f : Fit lab h) : HyN h := by
  cases h with
  | var n => exact Nat.le_trans f.1 (by decide)
  | rcd ls m => exact ⟨f.2.1, fun k e => Nat.le_trans (f.2.2.2 k e).1 (by decide)⟩
  | _ => trivial
theorem Gd.nm {lab : Nat → Option (List Str)} {t : Ty} (g : Gd lab t) : Nm t := by
  induction g with
  | mk a b _ ih => exact .mk a (fit_n b) ih
/-- other numbers: a tree all the same, where numbers that become one stood for the same -/
def relab (f : Nat → Nat) (lab : Nat → Option (List Str)) (ms : List Nat) : Nat → Option (List Str) := fun x => match ms.find? fun m => f m == x with
  | some m => lab m
  | none => none
theorem relab_at {f : Nat → Nat} {lab : Nat → Option (List Str)} {ms : List Nat} (h : ∀ a ∈ ms, ∀ b ∈ ms, f a = f b → lab a = lab b) {m : Nat} (hm : m ∈ ms) : relab f lab ms (f m) = lab m := by
  unfold relab
  cases e : ms.find? fun k => f k == f m with
  | none =>
    have := List.find?_eq_none.mp e m hm
    simp at this
  | some k =>
    have h1 := List.find?_some e
    have h2 := List.mem_of_find?_eq_some e
    exact h k h2 m hm (by simpa using h1)
theorem fit_map {f : Nat → Nat} {lab lab' : Nat → Option (List Str)} {h : Hy} (g : Fit lab h) (h1 : ∀ m ∈ h.mark.toList, lab' (f m) = lab m ∧ f m ≤ 999) : Fit lab' (h.map f) := by
  cases h with
  | var n =>
    have := h1 n (by simp [Hy.mark])
    exact ⟨this.2, by rw [this.1]; exact g.2⟩
  | rcd ls m =>
    cases m with
    | none => exact ⟨g.1, g.2.1, g.2.2.1, fun k e => by cases e⟩
    | some m =>
      have h9 := h1 m (by simp [Hy.mark])
      exact ⟨g.1, g.2.1, g.2.2.1, fun k e => by
        have : f m = k := by simpa using e
        subst this
        exact ⟨h9.2, by rw [h9.1]; exact (g.2.2.2 m rfl).2⟩⟩
  | _ => trivial
theorem gd_map {f : Nat → Nat} {lab lab' : Nat → Option (List Str)} {t : Ty} (g : Gd lab t) : (∀ m ∈ t.marks, lab' (f m) = lab m ∧ f m ≤ 999) → Gd lab' (t.map f) := by
  induction g with
  | @mk h ks o fi _ ih =>
    intro hm
    simp only [Ty.map]
    refine .mk (by rw [maps_len]; exact ok_map o) (fit_map fi fun m mm => hm m (by simp only [Ty.marks, List.mem_append]; exact .inr mm)) fun u mu => ?_
    obtain ⟨v, hv, rfl⟩ := mem_maps mu
    exact ih v hv fun m mm => hm m (by simp only [Ty.marks, List.mem_append]; exact .inl (marks_kid hv mm))
mutual
theorem map_size (f : Nat → Nat) : ∀ t : Ty, (t.map f).size = t.size
  | .node h ks => by simp only [Ty.map, Ty.size, maps_size f ks]
theorem maps_size (f : Nat → Nat) : ∀ ks : List Ty, Ty.sizes (Ty.maps f ks) = Ty.sizes ks
  | [] => rfl
  | t :: r => by simp only [Ty.maps, Ty.sizes, map_size f t, maps_size f r]
end
mutual
theorem map_deep (f : Nat → Nat) : ∀ t : Ty, (t.map f).deep = t.deep
  | .node h ks => by simp only [Ty.map, Ty.deep, maps_deep f ks]
theorem maps_deep (f : Nat → Nat) : ∀ ks : List Ty, Ty.deeps (Ty.maps f ks) = Ty.deeps ks
  | [] => rfl
  | t :: r => by simp only [Ty.maps, Ty.deeps, map_deep f t, maps_deep f r]
end
theorem dw_map (f : Nat → Nat) (h : Hy) : (h.map f).dw = h.dw := by cases h <;> rfl
mutual
theorem map_dd (f : Nat → Nat) : ∀ t : Ty, (t.map f).dd = t.dd
  | .node h ks => by simp only [Ty.map, Ty.dd, maps_dd f ks, dw_map]
theorem maps_dd (f : Nat → Nat) : ∀ ks : List Ty, Ty.dds (Ty.maps f ks) = Ty.dds ks
  | [] => rfl
  | t :: r => by simp only [Ty.maps, Ty.dds, map_dd f t, maps_dd f r]
end
theorem Lw.map {lab : Nat → Option (List Str)} {t : Ty} (l : Lw lab t) {f : Nat → Nat} (h9 : ∀ m ∈ t.marks, f m ≤ 999) (h : ∀ a ∈ t.marks, ∀ b ∈ t.marks, f a = f b → lab a = lab b) : Lw (relab f lab t.marks) (t.map f) :=
  ⟨gd_map l.gd fun m hm => ⟨relab_at h hm, h9 m hm⟩, by rw [map_size]; exact l.sz, by rw [map_deep]; exact l.dp, by rw [map_dd]; exact l.dd⟩
theorem num_as_map (t : Ty) : (t.num []).1 = t.map fun n => (t.num []).2.idxOf n := by
  have := num_place t [] []
  rw [List.append_nil] at this
  exact this
theorem Lw.num {lab : Nat → Option (List Str)} {t : Ty} (l : Lw lab t) : ∃ lab', Lw lab' (t.num []).1 := by
  have hlen := num_len t []
  rw [num_as_map]
  refine ⟨_, l.map (fun m hm => ?_) fun a ha b hb e => ?_⟩
  · have h1 := List.idxOf_lt_length_of_mem ((num_mem t [] m).mpr (.inr hm))
    have h2 := l.sz
    simp only [List.length_nil] at hlen
    omega
  · rw [idx_inj (t.num []).2 a ((num_mem t [] a).mpr (.inr ha)) b ((num_mem t [] b).mpr (.inr hb)) e]
/-! ### a leaf in the place of a part -/
theorem dd_two (t : Ty) : 2 ≤ t.dd := by
  have h1 : ∀ ks : List Ty, 1 ≤ Ty.dds ks := fun ks => by
    cases ks with
    | nil => exact Nat.le_refl _
    | cons t r =>
      simp only [Ty.dds]
      have : 1 ≤ t.dd := by
        cases t with
        | node h ks =>
          simp only [Ty.dd]
          have : 1 ≤ h.dw := by cases h <;> simp [Hy.dw]
          omega
      omega
  cases t with
  | node h ks =>
    have := h1 ks
    simp only [Ty.dd]
    have : 1 ≤ h.dw := by cases h <;> simp [Hy.dw]
    omega
theorem sizes_set {ks : List Ty} {i : Nat} {k u : Ty} (e : ks[i]? = some k) (h : u.size ≤ k.size) : Ty.sizes (ks.set i u) ≤ Ty.sizes ks := by
  induction ks generalizing i with
  | nil => simp at e
  | cons t r ih =>
    cases i with
    | zero =>
      have : t = k := by simpa using e
      subst this
      simp only [List.set_cons_zero, Ty.sizes]
      omega
    | succ i =>
      have := ih (i := i) (by simpa using e)
      simp only [List.set_cons_succ, Ty.sizes]
      omega
theorem deeps_set {ks : List Ty} {i : Nat} {k u : Ty} (e : ks[i]? = some k) (h : u.deep ≤ k.deep) : Ty.deeps (ks.set i u) ≤ Ty.deeps ks := by
  induction ks generalizing i with
  | nil => simp at e
  | cons t r ih =>
    cases i with
    | zero =>
      have : t = k := by simpa using e
      subst this
      simp only [List.set_cons_zero, Ty.deeps]
      omega
    | succ i =>
      have := ih (i := i) (by simpa using e)
      simp only [List.set_cons_succ, Ty.deeps]
      omega
theorem dds_set {ks : List Ty} {i : Nat} {k u : Ty} (e : ks[i]? = some k) (h : u.dd ≤ k.dd) : Ty.dds (ks.set i u) ≤ Ty.dds ks := by
  induction ks generalizing i with
  | nil => simp at e
  | cons t r ih =>
    cases i with
    | zero =>
      have : t = k := by simpa using e
      subst this
      simp only [List.set_cons_zero, Ty.dds]
      omega
    | succ i =>
      have := ih (i := i) (by simpa using e)
      simp only [List.set_cons_succ, Ty.dds]
      omega
theorem put_le {u : Ty} (h1 : u.size = 1) (h2 : u.deep = 1) (h3 : u.dd = 2) : ∀ (q : List Nat) (t : Ty), (t.put q u).size ≤ t.size ∧ (t.put q u).deep ≤ t.deep ∧ (t.put q u).dd ≤ t.dd
  | [], t => by
    have := t.pos
    have := dd_two t
    have : 1 ≤ t.deep := by
      cases t
      simp only [Ty.deep]
      omega
    refine ⟨?_, ?_, ?_⟩ <;> cases t <;> simp only [Ty.put] <;> omega
  | i :: q, .node h ks => by
    simp only [Ty.put]
    cases e : ks[i]? with
    | none => exact ⟨Nat.le_refl _, Nat.le_refl _, Nat.le_refl _⟩
    | some k =>
      obtain ⟨a, b, c⟩ := put_le h1 h2 h3 q k
      simp only [Ty.size, Ty.deep, Ty.dd]
      exact ⟨Nat.add_le_add_left (sizes_set e a) _, Nat.add_le_add_left (deeps_set e b) _, Nat.add_le_add_left (dds_set e c) _⟩
theorem put_gd {lab : Nat → Option (List Str)} {u : Ty} (gu : Gd lab u) : ∀ (q : List Nat) (t : Ty), Gd lab t → Gd lab (t.put q u)
  | [], t, _ => by cases t; exact gu
  | i :: q, .node h ks, g => by
    simp only [Ty.put]
    cases e : ks[i]? with
    | none => exact g
    | some k =>
      refine .mk (by rw [List.length_set]; exact g.hd) g.fit fun t m => ?_
      rcases List.mem_or_eq_of_mem_set m with m | rfl
      · exact g.kid m
      · exact put_gd gu q k (g.kid (List.mem_of_getElem? e))
theorem Lw.put {lab : Nat → Option (List Str)} {t u : Ty} (l : Lw lab t) (gu : Gd lab u) (h1 : u.size = 1) (h2 : u.deep = 1) (h3 : u.dd = 2) (q : List Nat) : Lw lab (t.put q u) := by
  obtain ⟨a, b, c⟩ := put_le h1 h2 h3 q t
  exact ⟨put_gd gu q t l.gd, Nat.le_trans a l.sz, Nat.le_trans b l.dp, Nat.le_trans c l.dd⟩
/-! ### two trees held against each other -/
theorem num_nm {lab : Nat → Option (List Str)} {t : Ty} (l : Lw lab t) : Nm (t.num []).1 ∧ (t.num []).1.dd ≤ 56 := by
  obtain ⟨lab', l'⟩ := l.num
  exact ⟨l'.gd.nm, l'.dd⟩
def spAlike (K : PySem.W.Frag) : Sp := fun vs H Q _ => ∃ (v1 v2 : V) (t1 t2 : Ty) (lab1 lab2 : Nat → Option (List Str)), vs = [v1, v2] ∧ Tr K H v1 t1 ∧ Tr K H v2 t2 ∧ Lw lab1 t1 ∧ Lw lab2 t2 ∧ ∀ H', Same H H' → Q (.bl true) H'
abbrev s_law_alike_right : Stmt := topS 60
abbrev N_law_alike_right : List Str := ["one", "other", "due"]
theorem sc_law_alike_right : FnScope N_law_alike_right ["one", "other"] (defScope s_law_alike_right) := ⟨rfl, rfl, rfl, by decide +kernel, rfl, by decide +kernel, by decide +kernel⟩
section
variable {P : Program} {w : World} {K : PySem.W.Frag} {mg : Str → Option Value} {base : Heap}
theorem ok_alike (S : Stands K mg "_law_alike_right" s_law_alike_right ["one", "other"]) (H_law_numbered : DefOk P w K mg base CX0 92 "_law_numbered" ["tree", "seen"] (spNumL K 90)) (H_tree_text : DefOk P w K mg base CX0 204 "tree_text" ["tree"] (spTText K)) (H_renumbered : DefOk P w K mg base CX0 102 "renumbered" ["tree"] (spRenum K)) :
    DefOk P w K mg base CX0 205 "_law_alike_right" ["one", "other"] (spAlike K) := by
  obtain ⟨f, fd, F, hm, hb⟩ := S
  obtain ⟨f_law_numbered, fd_law_numbered, G_law_numbered, m_law_numbered, k_law_numbered, b_law_numbered⟩ := H_law_numbered
  obtain ⟨f_tree_text, fd_tree_text, G_tree_text, m_tree_text, k_tree_text, b_tree_text⟩ := H_tree_text
  obtain ⟨f_renumbered, fd_renumbered, G_renumbered, m_renumbered, k_renumbered, b_renumbered⟩ := H_renumbered
  refine ⟨f, fd, ?_, hm, F.kp, hb⟩
  have nd := sc_law_alike_right.nd
  refine F.ok sc_law_alike_right (fun vs H Q E h => ?_) (fun cdv A outer s0 H vs Q E hr h => ?_)
  · obtain ⟨v1, v2, t1, t2, lab1, lab2, rfl, _⟩ := h
    rfl
  obtain ⟨v1, v2, t1, t2, lab1, lab2, rfl, hT1, hT2, l1, l2, q⟩ := h
  refine ⟨_, (pss_cons (ps_set (i := 2) nd rfl (Or.inl rfl) (pe_cmpR (op_eqD hr.units) (pe_call G_law_numbered (hr.mono (by decide)) rfl m_law_numbered k_law_numbered b_law_numbered .nil pass0 (pa_cons (pv 0) (pa_cons (pe_lst pa_nil) pa_nil))) (pe_call G_law_numbered (hr.mono (by decide)) rfl m_law_numbered k_law_numbered b_law_numbered .nil pass0 (pa_cons (pv 1) (pa_cons (pe_lst pa_nil) pa_nil))) (nomark _)))
      (pss_cons (ps_if (pt_cmpR op_ne (pe_cmpR op_eq (pe_call G_tree_text (hr.mono (by decide)) rfl m_tree_text k_tree_text b_tree_text .nil pass0 (pa_cons (pv 0) pa_nil)) (pe_call G_tree_text (hr.mono (by decide)) rfl m_tree_text k_tree_text b_tree_text .nil pass0 (pa_cons (pv 1) pa_nil)) (nomark _)) (pv 2) (nomark _)) (pss_one (ps_ret pe_bl)) pss_nil)
      (pss_one (ps_ret (pe_cmpR op_eq (pe_cmpR (op_eqD hr.units) (pe_call G_renumbered (hr.mono (by decide)) rfl m_renumbered k_renumbered b_renumbered .nil pass0 (pa_cons (pv 0) pa_nil)) (pe_call G_renumbered (hr.mono (by decide)) rfl m_renumbered k_renumbered b_renumbered .nil pass0 (pa_cons (pv 1) pa_nil)) (nomark _)) (pv 2) (nomark _)))))), ?_⟩
  obtain ⟨n1, m1⟩ := num_nm l1
  obtain ⟨n2, m2⟩ := num_nm l2
  refine ⟨_, rfl, sz (by simp), fun la hla => ?_⟩
  have Sa := same_new hla (.lst [])
  refine ⟨v1, t1, la, [], H, rfl, upd_same, Sa, hla, hT1, l1.gd.wy, l1.sz, by have := l1.sz; simp only [List.length_nil]; omega, l1.dp, fun r1 H1 k1 e1 tr1 => ?_⟩
  have S1 : Same H H1 := k1.ghost Sa hla
  have tr1' := tr1.same (un_le S1 nw_sub)
  refine ⟨_, rfl, sz (by simp), fun lb hlb => ?_⟩
  have Sb := same_new hlb (.lst [])
  refine ⟨v2, t2, lb, [], H, rfl, upd_same, S1.trans Sb, S1.fr hlb, hT2, l2.gd.wy, l2.sz, by have := l2.sz; simp only [List.length_nil]; omega, l2.dp, fun r2 H2 k2 e2 tr2 => ?_⟩
  have S2 : Same H1 H2 := k2.ghost Sb hlb
  have tr2' := tr2.same (un_le (S1.trans S2) nw_sub)
  refine ⟨_, _, (tr1'.same S2).dp, tr2'.dp, ty_shaped n1 m1, ty_shaped n2 m2, ?_⟩
  refine gn ?_
  have SS := S1.trans S2
  have hb : ∀ x y : Bool, (x = true ↔ (t1.num []).1 = (t2.num []).1) → (y = true ↔ (t1.num []).1 = (t2.num []).1) → x = y := fun x y a b => by
    cases x <;> cases y <;> first | rfl | (exfalso; simp_all)
  have he := eqv_iff n1 n2
  generalize PyData.eqv (t1.num []).1.data (t2.num []).1.data = due at *
  refine ⟨_, rfl, v1, t1, lab1, rfl, hT1.same SS, l1.gt, fun z1 H3 S3 ez1 => ?_⟩
  refine ⟨_, rfl, v2, t2, lab2, rfl, hT2.same (SS.trans S3), l2.gt, fun z2 H4 S4 ez2 => ?_⟩
  have S04 := (SS.trans S3).trans S4
  have ht : decide (V.str z1 = V.str z2) = due := hb _ _ (by
    rw [decide_eq_true_iff, ← text_iff l1.gd.wy l2.gd.wy, ← ez1, ← ez2]
    exact ⟨fun e => by injection e with e; rw [e], fun e => by rw [ext_tl e]⟩) he
  refine ⟨rfl, _, rfl, rfl, _, rfl, ?_⟩
  refine ifF (by rw [ht]; simp) ?_
  refine ⟨_, rfl, v1, t1, lab1, rfl, hT1.same S04, l1.gt, fun r3 H5 S5 tr3 _ => ?_⟩
  refine ⟨_, rfl, v2, t2, lab2, rfl, hT2.same (S04.trans S5), l2.gt, fun r4 H6 S6 tr4 _ => ?_⟩
  refine ⟨_, _, ((tr3.same nw_sub).same S6).dp, (tr4.same nw_sub).dp, ty_shaped n1 m1, ty_shaped n2 m2, ?_⟩
  have hq : PyData.eqv (t1.num []).1.data (t2.num []).1.data = due := hb _ _ (eqv_iff n1 n2) he
  rw [hq]
  refine ⟨_, rfl, rfl, ?_⟩
  show Q (.bl (decide (V.bl due = V.bl due))) H6
  rw [decide_eq_true rfl]
  exact q H6 ((S04.trans S5).trans S6)
end
end Vt


set_option Elab.async false
set_option linter.all false
set_option maxRecDepth 100000
set_option maxHeartbeats 4000000

namespace Vt
open PySem PySem.Spec PyProof.Rows L2 TL
/-! ### the world of a tree -/
def Wo.lab (W : Wo) : Nat → Option (List Str) := fun x => if x = W.nr 4 then some W.one else if x = W.nr 5 then some W.two else if x = W.nr 6 then some W.three else none
theorem Wo.Ok.lab_v {W : Wo} (o : W.Ok) {k : Nat} (hk : k < 4) : W.lab (W.nr k) = none := by
  unfold Wo.lab
  rw [if_neg fun e => by have := o.inj (by omega) (by decide) e; omega, if_neg fun e => by have := o.inj (by omega) (by decide) e; omega, if_neg fun e => by have := o.inj (by omega) (by decide) e; omega]
theorem Wo.Ok.lab_t {W : Wo} (o : W.Ok) : W.lab (W.nr 4) = some W.one ∧ W.lab (W.nr 5) = some W.two ∧ W.lab (W.nr 6) = some W.three := by
  unfold Wo.lab
  refine ⟨if_pos rfl, ?_, ?_⟩
  · rw [if_neg fun e => by have := o.inj (by decide) (by decide) e; omega, if_pos rfl]
  · rw [if_neg fun e => by have := o.inj (by decide) (by decide) e; omega, if_neg fun e => by have := o.inj (by decide) (by decide) e; omega, if_pos rfl]
theorem Wo.nr9 (W : Wo) (k : Nat) : W.nr k ≤ 999 := by
  unfold Wo.nr
  omega
theorem fits_fit {W : Wo} (o : W.Ok) {h : Hy} (f : W.fits h) : Fit W.lab h := by
  cases h with
  | var n =>
    rcases f with e | e | e | e <;> rw [e] <;> exact ⟨W.nr9 _, o.lab_v (by decide)⟩
  | rcd ls m =>
    obtain ⟨sub, len⟩ := o.sub f
    refine ⟨by omega, fun n hn => menu_name n (sub.subset hn), menu_asc.sublist sub, fun k e => ?_⟩
    subst e
    obtain ⟨b1, b2, b3⟩ := o.lab_t
    rcases f with ⟨e1, e2⟩ | ⟨e1, e2⟩ | ⟨e1, e2⟩
    · rw [e1, e2]; exact ⟨W.nr9 _, b1⟩
    · rw [e1, e2]; exact ⟨W.nr9 _, b2⟩
    · rw [e1, e2]; exact ⟨W.nr9 _, b3⟩
  | _ => trivial
theorem dr_gd {W : Wo} (o : W.Ok) {t : Ty} (d : Dr W t) : Wy t → Gd W.lab t := by
  induction d with
  | @mk h ks f _ ih => exact fun w => .mk w.hd (fits_fit o f) fun t m => ih t m (w.kid m)
theorem Dn.lw {W : Wo} {r : Nat} {t : Ty} (d : Dn W r t) (o : W.Ok) (hr : r ≤ 50) : Lw W.lab t := by
  have h1 := d.sz
  have h2 := d.dp
  have h3 := d.dd
  unfold szR at h1
  unfold dpR at h2
  unfold ddR at h3
  refine ⟨dr_gd o d.dr d.wy, ?_, ?_, ?_⟩
  · split at h1 <;> omega
  · split at h2 <;> omega
  · split at h3 <;> omega
theorem Dn.small {W : Wo} {r : Nat} {t : Ty} (d : Dn W r t) (hr : r ≤ 50) : t.size ≤ 149 := by
  have h1 := d.sz
  unfold szR at h1
  split at h1 <;> omega
theorem dr_marks {W : Wo} {t : Ty} (d : Dr W t) : ∀ m ∈ t.marks, ∃ k, k < 7 ∧ m = W.nr k := by
  induction d with
  | @mk h ks f _ ih =>
    intro m hm
    simp only [Ty.marks, List.mem_append] at hm
    rcases hm with hm | hm
    · have : ∀ ks : List Ty, (∀ t ∈ ks, ∀ m ∈ t.marks, ∃ k, k < 7 ∧ m = W.nr k) → m ∈ Ty.markss ks → ∃ k, k < 7 ∧ m = W.nr k := fun ks => by
        induction ks with
        | nil => intro _ h; simp [Ty.markss] at h
        | cons u r ih2 =>
          intro h1 h2
          simp only [Ty.markss, List.mem_append] at h2
          rcases h2 with h2 | h2
          · exact h1 u (by simp) m h2
          · exact ih2 (fun t mt => h1 t (List.mem_cons_of_mem _ mt)) h2
      exact this ks ih hm
    · cases h with
      | var n =>
        have : m = n := by simpa [Hy.mark] using hm
        subst this
        rcases f with e | e | e | e
        · exact ⟨0, by decide, e⟩
        · exact ⟨1, by decide, e⟩
        · exact ⟨2, by decide, e⟩
        · exact ⟨3, by decide, e⟩
      | rcd ls o =>
        have : o = some m := by
          cases o with
          | none => simp [Hy.mark] at hm
          | some k => simp [Hy.mark] at hm; rw [hm]
        subst this
        rcases f with ⟨e, _⟩ | ⟨e, _⟩ | ⟨e, _⟩
        · exact ⟨4, by decide, e⟩
        · exact ⟨5, by decide, e⟩
        · exact ⟨6, by decide, e⟩
      | _ => simp [Hy.mark] at hm
theorem rev7 {α : Type} (f : Nat → α) {j : Nat} (h : j < 7) : ((List.range 7).map f).reverse[j]? = some (f (6 - j)) := by
  rcases (by omega : j = 0 ∨ j = 1 ∨ j = 2 ∨ j = 3 ∨ j = 4 ∨ j = 5 ∨ j = 6) with rfl | rfl | rfl | rfl | rfl | rfl | rfl <;> rfl
/-- the dict of other numbers -/
def nkv (W : Wo) (fi st : Nat) : List (Key × V) := [(.inl (W.nr 6 : Nat), .int (((fi + st * 0) % 1000 : Nat) : Int)), (.inl (W.nr 5 : Nat), .int (((fi + st * 1) % 1000 : Nat) : Int)), (.inl (W.nr 4 : Nat), .int (((fi + st * 2) % 1000 : Nat) : Int)), (.inl (W.nr 3 : Nat), .int (((fi + st * 3) % 1000 : Nat) : Int)), (.inl (W.nr 2 : Nat), .int (((fi + st * 4) % 1000 : Nat) : Int)), (.inl (W.nr 1 : Nat), .int (((fi + st * 5) % 1000 : Nat) : Int)), (.inl (W.nr 0 : Nat), .int (((fi + st * 6) % 1000 : Nat) : Int))]
def nfn (W : Wo) (fi st : Nat) : Nat → Nat := fun x => match (List.range 7).find? fun k => W.nr k == x with
  | some k => (fi + st * (6 - k)) % 1000
  | none => 0
theorem nfn_at {W : Wo} (o : W.Ok) {fi st k : Nat} (hk : k < 7) : nfn W fi st (W.nr k) = (fi + st * (6 - k)) % 1000 := by
  unfold nfn
  cases e : (List.range 7).find? fun j => W.nr j == W.nr k with
  | none =>
    have := List.find?_eq_none.mp e k (List.mem_range.mpr hk)
    simp at this
  | some j =>
    have h1 := List.find?_some e
    have h2 := List.mem_range.mp (List.mem_of_find?_eq_some e)
    have : j = k := o.inj h2 hk (by simpa using h1)
    rw [this]
theorem nfn_inj {W : Wo} (o : W.Ok) {fi st j k : Nat} (hst : st = 1 ∨ st = 3 ∨ st = 9 ∨ st = 77) (hj : j < 7) (hk : k < 7) (e : nfn W fi st (W.nr j) = nfn W fi st (W.nr k)) : j = k := by
  rw [nfn_at o hj, nfn_at o hk] at e
  rcases hst with h | h | h | h <;> rw [h] at e <;> omega
theorem merge_not {k : Key} : ∀ (more acc : List (Key × V)), (∀ p ∈ more, p.1 ≠ k) → valV (mergeK acc more) k = valV acc k
  | [], acc, _ => rfl
  | p :: r, acc, h => by
    show valV (mergeK (putK acc p.1 p.2) r) k = _
    rw [merge_not r _ fun q hq => h q (List.mem_cons_of_mem _ hq), valV_put, if_neg fun e => h p (by simp) e.symm]
theorem merge_val {k : Key} {x : V} : ∀ (more acc : List (Key × V)), (more.map (·.1)).Nodup → (k, x) ∈ more → valV (mergeK acc more) k = some x
  | [], _, _, h => by cases h
  | p :: r, acc, n, h => by
    show valV (mergeK (putK acc p.1 p.2) r) k = _
    have n' := List.nodup_cons.mp n
    rcases List.mem_cons.mp h with e | h
    · subst e
      rw [merge_not r _ fun q hq e => n'.1 (by rw [← e]; exact List.mem_map.mpr ⟨q, hq, rfl⟩), valV_put, if_pos rfl]
    · exact merge_val r _ n'.2 h
theorem merge_len : ∀ (more acc : List (Key × V)), (mergeK acc more).length ≤ acc.length + more.length
  | [], acc => Nat.le_refl _
  | p :: r, acc => by
    show (mergeK (putK acc p.1 p.2) r).length ≤ _
    have h1 := merge_len r (putK acc p.1 p.2)
    have h2 := length_putK acc p.1 p.2
    simp only [List.length_cons]
    omega
theorem nkv_nd {W : Wo} (o : W.Ok) (fi st : Nat) : ((nkv W fi st).map (·.1)).Nodup := by
  have ne : ∀ {i j : Nat}, i < 7 → j < 7 → i ≠ j → ¬ (((W.nr i : Nat) : Int) = ((W.nr j : Nat) : Int)) := fun hi hj h e => h (o.inj hi hj (by omega))
  simp [nkv, ne]
theorem nkv_val {W : Wo} (o : W.Ok) (fi st : Nat) : ∀ k, k < 7 → valV (mergeK [] (nkv W fi st)) (.inl ((W.nr k : Nat) : Int)) = some (.int (nfn W fi st (W.nr k) : Nat)) := fun k hk => by
  refine merge_val _ _ (nkv_nd o fi st) ?_
  rw [nfn_at o hk]
  rcases (by omega : k = 0 ∨ k = 1 ∨ k = 2 ∨ k = 3 ∨ k = 4 ∨ k = 5 ∨ k = 6) with rfl | rfl | rfl | rfl | rfl | rfl | rfl <;> simp [nkv]
theorem nkv_len (W : Wo) (fi st : Nat) : (mergeK [] (nkv W fi st)).length ≤ 7 := merge_len (nkv W fi st) []
theorem paired7 {K : PySem.W.Frag} {Z : Hp} {W : Wo} {fi st : Nat} {q0 q1 q2 q3 q4 q5 q6 : Addr} (kt : ∀ j p, [q0, q1, q2, q3, q4, q5, q6][j]? = some p → SqT K Z p [V.int (W.nr (6 - j) : Nat), V.int (((fi + st * j) % 1000 : Nat) : Int)]) :
    Paired (fun p (kv : Key × V) => SqT K Z p [kV kv.1, kv.2]) [q0, q1, q2, q3, q4, q5, q6] (nkv W fi st) := by
  unfold nkv
  exact .cons (kt 0 _ rfl) (.cons (kt 1 _ rfl) (.cons (kt 2 _ rfl) (.cons (kt 3 _ rfl) (.cons (kt 4 _ rfl) (.cons (kt 5 _ rfl) (.cons (kt 6 _ rfl) .nil))))))
/-- the first variable gets the number of the second one -/
def nf2 (W : Wo) (fi st : Nat) : Nat → Nat := fun x => if x = W.nr 0 then nfn W fi st (W.nr 1) else nfn W fi st x
theorem nf2_val {W : Wo} (o : W.Ok) {fi st : Nat} {kvs : List (Key × V)} (h : ∀ k, k < 7 → valV kvs (.inl ((W.nr k : Nat) : Int)) = some (.int (nfn W fi st (W.nr k) : Nat))) {k : Nat} (hk : k < 7) :
    valV (putK kvs (.inl ((W.nr 0 : Nat) : Int)) (.int (nfn W fi st (W.nr 1) : Nat))) (.inl ((W.nr k : Nat) : Int)) = some (.int (nf2 W fi st (W.nr k) : Nat)) := by
  rw [valV_put]
  unfold nf2
  by_cases c : W.nr k = W.nr 0
  · rw [if_pos c, if_pos (by rw [c])]
  · rw [if_neg c, if_neg (fun e => c (by injection e with e; omega)), h k hk]
theorem nf2_le {W : Wo} (o : W.Ok) {fi st k : Nat} (hk : k < 7) : nf2 W fi st (W.nr k) ≤ 999 := by
  unfold nf2
  split
  · rw [nfn_at o (by decide)]
    omega
  · rw [nfn_at o hk]
    omega
theorem nf2_lab {W : Wo} (o : W.Ok) {fi st j k : Nat} (hst : st = 1 ∨ st = 3 ∨ st = 9 ∨ st = 77) (hj : j < 7) (hk : k < 7) (e : nf2 W fi st (W.nr j) = nf2 W fi st (W.nr k)) : W.lab (W.nr j) = W.lab (W.nr k) := by
  have l0 := o.lab_v (k := 0) (by decide)
  have l1 := o.lab_v (k := 1) (by decide)
  unfold nf2 at e
  by_cases cj : W.nr j = W.nr 0
  · rw [if_pos cj] at e
    by_cases ck : W.nr k = W.nr 0
    · rw [cj, ck]
    · rw [if_neg ck] at e
      have := nfn_inj o hst (by decide) hk e
      rw [cj, ← this, l0, l1]
  · rw [if_neg cj] at e
    by_cases ck : W.nr k = W.nr 0
    · rw [if_pos ck] at e
      have := nfn_inj o hst hj (by decide) e
      rw [ck, this, l0, l1]
    · rw [if_neg ck] at e
      rw [nfn_inj o hst hj hk e]
theorem markss_set {ks : List Ty} {i : Nat} {k u : Ty} (e : ks[i]? = some k) : ∀ m ∈ Ty.markss (ks.set i u), m ∈ Ty.markss ks ∨ m ∈ u.marks := by
  induction ks generalizing i with
  | nil => simp at e
  | cons t r ih =>
    intro m hm
    cases i with
    | zero =>
      simp only [List.set_cons_zero, Ty.markss, List.mem_append] at hm ⊢
      rcases hm with hm | hm
      · exact .inr hm
      · exact .inl (.inr hm)
    | succ i =>
      simp only [List.set_cons_succ, Ty.markss, List.mem_append] at hm ⊢
      rcases hm with hm | hm
      · exact .inl (.inl hm)
      · rcases ih (i := i) (by simpa using e) m hm with h | h
        · exact .inl (.inr h)
        · exact .inr h
theorem put_marks (u : Ty) : ∀ (q : List Nat) (t : Ty) (m : Nat), m ∈ (t.put q u).marks → m ∈ t.marks ∨ m ∈ u.marks
  | [], t, m, h => by cases t; exact .inr h
  | i :: q, .node h ks, m, hm => by
    simp only [Ty.put] at hm
    cases e : ks[i]? with
    | none => rw [e] at hm; exact .inl hm
    | some k =>
      rw [e] at hm
      simp only [Ty.marks, List.mem_append] at hm ⊢
      rcases hm with hm | hm
      · rcases markss_set e m hm with h1 | h1
        · exact .inl (.inl h1)
        · rcases put_marks u q k m h1 with h2 | h2
          · exact .inl (.inl (marks_kid (List.mem_of_getElem? e) h2))
          · exact .inr h2
      · exact .inl (.inr hm)
theorem tup_updD {K : PySem.W.Frag} {H : Hp} {p a : Addr} {kvs : List (Key × V)} {xs : List V} {o : HO} (h : SqT K H a xs) (e : H p = some (.dK kvs)) : SqT K (upd H p o) a xs := by
  rcases h with (h | ⟨u, h⟩) | h
  · exact .inl (.inl (by rw [upd_ne fun z => by rw [z, e] at h; cases h]; exact h))
  · exact .inl (.inr ⟨u, by rw [upd_ne fun z => by rw [z, e] at h; cases h]; exact h⟩)
  · exact .inr h
theorem lst_updD {K : PySem.W.Frag} {H : Hp} {p a : Addr} {kvs : List (Key × V)} {xs : List V} {o : HO} (h : SqL K H a xs) (e : H p = some (.dK kvs)) : SqL K (upd H p o) a xs := by
  rcases h with (h | ⟨u, h⟩) | h
  · exact .inl (.inl (by rw [upd_ne fun z => by rw [z, e] at h; cases h]; exact h))
  · exact .inl (.inr ⟨u, by rw [upd_ne fun z => by rw [z, e] at h; cases h]; exact h⟩)
  · exact .inr h
theorem Tr.updD {K : PySem.W.Frag} {H : Hp} {p : Addr} {kvs : List (Key × V)} {o : HO} {v : V} {t : Ty} (h : Tr K H v t) (e : H p = some (.dK kvs)) : Tr K (upd H p o) v t := by
  induction h with
  | var h => exact .var (tup_updD h e)
  | int h => exact .int (tup_updD h e)
  | bool h => exact .bool (tup_updD h e)
  | fn h _ _ i j => exact .fn (tup_updD h e) i j
  | tup h h2 l1 f i => exact .tup (tup_updD h e) (lst_updD h2 e) l1 i
  | rcd h h2 l1 l2 l3 f g i => exact .rcd (tup_updD h e) (lst_updD h2 e) l1 l2 l3 (fun j b n u a1 a2 a3 => tup_updD (f j b n u a1 a2 a3) e) i
theorem w_tr1 {h : Hy} (c : h = .tup ∨ ∃ ls m, h = .rcd ls m) : inV (V.str h.word) [V.str "tuple", V.str "record"] = true := by
  rcases c with rfl | ⟨ls, m, rfl⟩ <;> kernel_rfl
theorem w_tr2 {h : Hy} (c : ¬ (h = .tup ∨ ∃ ls m, h = .rcd ls m)) : inV (V.str h.word) [V.str "tuple", V.str "record"] = false := by
  cases h with
  | tup => exact absurd (.inl rfl) c
  | rcd ls m => exact absurd (.inr ⟨_, _, rfl⟩) c
  | _ => kernel_rfl
theorem keep_off {s : Addr} {H : Hp} : Keep s H (off s H) := fun b o n e => by rw [off_ne n]; exact e
def spLaw (K : PySem.W.Frag) : Sp := fun vs H Q _ => ∃ (a : Addr) (ns : List Int), vs = [.ref a] ∧ SqL K H a (ns.map V.int) ∧ ns.length ≤ 900 ∧ ∀ H', Q (.bl true) H'
abbrev s_law : Stmt := topS 61
abbrev N_law : List Str := ["script", "cell", "source", "turn", "world", "tree", "kept", "due", "told", "known", "step", "first", "numbers", "other", "path", "bad", "one", "at", "number"]
theorem sc_law : FnScope N_law ["script"] (defScope s_law) := ⟨rfl, rfl, rfl, by decide +kernel, rfl, by decide +kernel, by decide +kernel⟩
section
variable {P : Program} {w : World} {K : PySem.W.Frag} {mg : Str → Option Value} {base : Heap}
theorem ok_law {f : Addr} {fd : FuncData} (F : Fun K "law" "law" s_law f fd) (Z : Blt mg) (z_dict : mg "dict" = none)
    (H_law_source_of : DefOk P w K mg base CX0 1 "_law_source_of" ["cell"] spSource)
    (H_law_next : DefOk P w K mg base CX0 1 "_law_next" ["source", "many"] spNext)
    (H_law_one : DefOk P w K mg base CX0 2 "_law_one" ["source", "some"] (spOne K))
    (H_law_world : DefOk P w K mg base CX0 3 "_law_world" ["source"] (spWorld K))
    (H_law_tree : DefOk P w K mg base CX0 54 "_law_tree" ["source", "room", "world"] (spTree K 51))
    (H_law_numbered : DefOk P w K mg base CX0 92 "_law_numbered" ["tree", "seen"] (spNumL K 90))
    (H_law_other : DefOk P w K mg base CX0 92 "_law_other" ["tree", "numbers"] (spOther K 90))
    (H_law_paths : DefOk P w K mg base CX0 92 "_law_paths" ["tree"] (spPaths K 90))
    (H_law_put : DefOk P w K mg base CX0 92 "_law_put" ["tree", "path", "value"] (spPut K 90))
    (H_law_alike_right : DefOk P w K mg base CX0 205 "_law_alike_right" ["one", "other"] (spAlike K))
    (H_tree_text : DefOk P w K mg base CX0 204 "tree_text" ["tree"] (spTText K))
    (H_renumbered : DefOk P w K mg base CX0 102 "renumbered" ["tree"] (spRenum K)) :
    FnG P w K mg base CX0 206 f fd ["script"] (spLaw K) := by
  have z_repr := Z.repr
  have z_list := Z.list
  have z_int := Z.int
  have z_range := Z.range
  have z_enumerate := Z.enumerate
  obtain ⟨f_law_source_of, fd_law_source_of, G_law_source_of, m_law_source_of, k_law_source_of, b_law_source_of⟩ := H_law_source_of
  obtain ⟨f_law_next, fd_law_next, G_law_next, m_law_next, k_law_next, b_law_next⟩ := H_law_next
  obtain ⟨f_law_one, fd_law_one, G_law_one, m_law_one, k_law_one, b_law_one⟩ := H_law_one
  obtain ⟨f_law_world, fd_law_world, G_law_world, m_law_world, k_law_world, b_law_world⟩ := H_law_world
  obtain ⟨f_law_tree, fd_law_tree, G_law_tree, m_law_tree, k_law_tree, b_law_tree⟩ := H_law_tree
  obtain ⟨f_law_numbered, fd_law_numbered, G_law_numbered, m_law_numbered, k_law_numbered, b_law_numbered⟩ := H_law_numbered
  obtain ⟨f_law_other, fd_law_other, G_law_other, m_law_other, k_law_other, b_law_other⟩ := H_law_other
  obtain ⟨f_law_paths, fd_law_paths, G_law_paths, m_law_paths, k_law_paths, b_law_paths⟩ := H_law_paths
  obtain ⟨f_law_put, fd_law_put, G_law_put, m_law_put, k_law_put, b_law_put⟩ := H_law_put
  obtain ⟨f_law_alike_right, fd_law_alike_right, G_law_alike_right, m_law_alike_right, k_law_alike_right, b_law_alike_right⟩ := H_law_alike_right
  obtain ⟨f_tree_text, fd_tree_text, G_tree_text, m_tree_text, k_tree_text, b_tree_text⟩ := H_tree_text
  obtain ⟨f_renumbered, fd_renumbered, G_renumbered, m_renumbered, k_renumbered, b_renumbered⟩ := H_renumbered
  have nd := sc_law.nd
  refine fnG F sc_law (fun vs H Q E h => ?_) (fun cdv A outer s0 H vs Q E gd hr h => ?_)
  · obtain ⟨a, ns, rfl, _⟩ := h
    rfl
  obtain ⟨a, ns, rfl, ha, hn, q⟩ := h
  have hu : (A.deeper (envOfC "law" (defScope s_law) s0.heap.objs.size f cdv)).units + 64 < cLine := by have := hr.un; omega
  have hu1 : (A.deeper (envOfC "law" (defScope s_law) s0.heap.objs.size f cdv)).units + 1 < cLine := by have := hr.un; omega
  refine ⟨_, (pss_cons (ps_for PassesOwn.never rfl (pi_list (pe_op op_cat (pe_slice sl_list (pv 0) po_none (po_some pe_int)) (pe_lst (pa_cons pe_int pa_nil)))) (pg_name (i := 1) nd rfl (Or.inl rfl)) (pss_cons (ps_set (i := 2) nd rfl (Or.inl rfl) (pe_call G_law_source_of (hr.mono (by decide)) rfl m_law_source_of k_law_source_of b_law_source_of .nil pass0 (pa_cons (pv 1) pa_nil)))
      (pss_one (ps_for PassesOwn.never rfl (pi_range1 (by rfl) z_range (pa_cons pe_int pa_nil)) (pg_name (i := 3) nd rfl (Or.inl rfl)) (pss_cons (ps_set (i := 4) nd rfl (Or.inl rfl) (pe_call G_law_world (hr.mono (by decide)) rfl m_law_world k_law_world b_law_world .nil pass0 (pa_cons (pv 2) pa_nil)))
      (pss_cons (ps_set (i := 5) nd rfl (Or.inl rfl) (pe_call G_law_tree (hr.mono (by decide)) rfl m_law_tree k_law_tree b_law_tree .nil pass0 (pa_cons (pv 2) (pa_cons (pe_call G_law_next (hr.mono (by decide)) rfl m_law_next k_law_next b_law_next .nil pass0 (pa_cons (pv 2) (pa_cons pe_int pa_nil))) (pa_cons (pv 4) pa_nil)))))
      (pss_cons (ps_par (i := 6) (j := 7) (by rfl) nd rfl rfl (by decide) rfl rfl (pa_cons (pe_callB (call_reprG gd hu) (by rfl) z_repr (by decide +kernel) (pa_cons (pv 5) pa_nil)) (pa_cons (pe_call G_law_numbered (hr.mono (by decide)) rfl m_law_numbered k_law_numbered b_law_numbered .nil pass0 (pa_cons (pv 5) (pa_cons (pe_lst pa_nil) pa_nil))) pa_nil)) (by rfl))
      (pss_cons (ps_set (i := 8) nd rfl (Or.inl rfl) (pe_call G_renumbered (hr.mono (by decide)) rfl m_renumbered k_renumbered b_renumbered .nil pass0 (pa_cons (pv 5) pa_nil)))
      (pss_cons (ps_if (PW.pt (pw_or (pt_cmpR (op_neD hu) (pv 8) (pv 7) (nomark _)) (pw_or (pt_cmpR op_ne (pe_callB (call_reprG gd hu) (by rfl) z_repr (by decide +kernel) (pa_cons (pv 8) pa_nil)) (pe_callB (call_reprG gd hu) (by rfl) z_repr (by decide +kernel) (pa_cons (pv 7) pa_nil)) (nomark _)) (pw_or (pt_cmpR (op_neD hu) (pe_call G_renumbered (hr.mono (by decide)) rfl m_renumbered k_renumbered b_renumbered .nil pass0 (pa_cons (pv 8) pa_nil)) (pv 7) (nomark _)) (pw_or1 (pt_cmpR op_ne (pe_callB (call_reprG gd hu) (by rfl) z_repr (by decide +kernel) (pa_cons (pv 5) pa_nil)) (pv 6) (nomark _))))))) (pss_one (ps_ret pe_bl)) pss_nil)
      (pss_cons (ps_asg (pe_tup (pa_cons (pe_op op_cat (pe_dget hu1 (pv 4) pe_str noSl_s) (pe_callTy (call_listD rfl) (by rfl) z_list (by decide +kernel) (pa_cons (pe_dget hu1 (pv 4) pe_str noSl_s) pa_nil))) (pa_cons (pe_call G_law_one (hr.mono (by decide)) rfl m_law_one k_law_one b_law_one .nil pass0 (pa_cons (pv 2) (pa_cons (pe_lst (pa_cons pe_int (pa_cons pe_int (pa_cons pe_int (pa_cons pe_int pa_nil))))) pa_nil))) pa_nil))) (pg_tup rfl (pgs_cons (pg_name (i := 9) nd rfl (Or.inl rfl)) (pgs_cons (pg_name (i := 10) nd rfl (Or.inr rfl)) pgs_nil))))
      (pss_cons (ps_set (i := 11) nd rfl (Or.inr rfl) (pe_call G_law_next (hr.mono (by decide)) rfl m_law_next k_law_next b_law_next .nil pass0 (pa_cons (pv 2) (pa_cons pe_int pa_nil))))
      (pss_cons (ps_set (i := 12) nd rfl (Or.inl rfl) (pe_callTy (call_dictP rfl) (by rfl) z_dict (by decide +kernel) (pa_cons (pe_lc (own := [("at", 17), ("number", 18)]) (g := gTup K 2 (gCons (gName 17) (gCons (gName 18) gNil))) (tt := tYes) rfl nd (pi_enum (by rfl) z_enumerate (pa_cons (pe_revL (pv 9)) pa_nil)) (blkOk_by (N := N_law) (sc := defScope s_law) (by decide +kernel)) (fun _ _ _ _ _ => (pg_tup rfl (pgs_cons (pg_name (i := 17) nd rfl (Or.inl rfl)) (pgs_cons (pg_name (i := 18) nd rfl (Or.inl rfl)) pgs_nil)))) (fun _ _ _ _ _ => pts_nil) (fun _ _ _ _ _ => (pe_tup (pa_cons (pv 18) (pa_cons (pe_op op_mod (pe_callTy call_int1 (by rfl) z_int (by decide +kernel) (pa_cons (pe_op op_add (pv 11) (pe_op op_mul (pv 10) (pv 17))) pa_nil)) pe_int) pa_nil))))) pa_nil)))
      (pss_cons (ps_set (i := 13) nd rfl (Or.inl rfl) (pe_call G_law_other (hr.mono (by decide)) rfl m_law_other k_law_other b_law_other .nil pass0 (pa_cons (pv 5) (pa_cons (pv 12) pa_nil))))
      (pss_cons (ps_if (PW.pt (pw_or (pt_cmpR (op_neD hu) (pe_call G_renumbered (hr.mono (by decide)) rfl m_renumbered k_renumbered b_renumbered .nil pass0 (pa_cons (pv 13) pa_nil)) (pv 7) (nomark _)) (pw_or1 (pt_cmpR op_ne (pe_call G_tree_text (hr.mono (by decide)) rfl m_tree_text k_tree_text b_tree_text .nil pass0 (pa_cons (pv 13) pa_nil)) (pe_call G_tree_text (hr.mono (by decide)) rfl m_tree_text k_tree_text b_tree_text .nil pass0 (pa_cons (pv 5) pa_nil)) (nomark _))))) (pss_one (ps_ret pe_bl)) pss_nil)
      (pss_cons (ps_set (i := 14) nd rfl (Or.inl rfl) (pe_call G_law_one (hr.mono (by decide)) rfl m_law_one k_law_one b_law_one .nil pass0 (pa_cons (pv 2) (pa_cons (pe_call G_law_paths (hr.mono (by decide)) rfl m_law_paths k_law_paths b_law_paths .nil pass0 (pa_cons (pv 5) pa_nil)) pa_nil))))
      (pss_cons (ps_set (i := 15) nd rfl (Or.inl rfl) (pe_call G_law_put (hr.mono (by decide)) rfl m_law_put k_law_put b_law_put .nil pass0 (pa_cons (pv 5) (pa_cons (pv 14) (pa_cons (pe_call G_law_one (hr.mono (by decide)) rfl m_law_one k_law_one b_law_one .nil pass0 (pa_cons (pv 2) (pa_cons (pe_lst (pa_cons (pe_tup (pa_cons pe_str pa_nil)) (pa_cons (pe_tup (pa_cons pe_str pa_nil)) (pa_cons (pe_tup (pa_cons pe_str (pa_cons (pe_ix ix_list (pe_dget hu1 (pv 4) pe_str noSl_s) pe_int (fun _ _ => rfl)) pa_nil))) pa_nil)))) pa_nil))) pa_nil)))))
      (pss_cons (ps_dput hu1 (pv 12) (pe_ix ix_list (pe_dget hu1 (pv 4) pe_str noSl_s) pe_int (fun _ _ => rfl)) (pe_dget hu1 (pv 12) (pe_ix ix_list (pe_dget hu1 (pv 4) pe_str noSl_s) pe_int (fun _ _ => rfl)) (fun _ _ => rfl)) rfl)
      (pss_cons (ps_for PassesOwn.never rfl (pi_tup (pe_tup (pa_cons (pv 15) (pa_cons (pe_call G_law_other (hr.mono (by decide)) rfl m_law_other k_law_other b_law_other .nil pass0 (pa_cons (pv 5) (pa_cons (pv 12) pa_nil))) (pa_cons (pe_call G_law_other (hr.mono (by decide)) rfl m_law_other k_law_other b_law_other .nil pass0 (pa_cons (pv 15) (pa_cons (pv 12) pa_nil))) pa_nil))))) (pg_name (i := 16) nd rfl (Or.inl rfl)) (pss_one (ps_if (PW.pt (pw_or (pt_not (pt_val (pe_call G_law_alike_right (hr.mono (by decide)) rfl m_law_alike_right k_law_alike_right b_law_alike_right .nil pass0 (pa_cons (pv 5) (pa_cons (pv 16) pa_nil))))) (pw_or1 (pt_not (pt_val (pe_call G_law_alike_right (hr.mono (by decide)) rfl m_law_alike_right k_law_alike_right b_law_alike_right .nil pass0 (pa_cons (pv 15) (pa_cons (pv 16) pa_nil)))))))) (pss_one (ps_ret pe_bl)) pss_nil)))
      (C8.pss_cut (ps_if (pt_cmpR op_in_seq (pe_ix ix_tup (pv 8) pe_int (fun _ _ => rfl)) (pe_tup (pa_cons pe_str (pa_cons pe_str pa_nil))) (by rfl)) (pss_one (ps_expr (pe_bm0 PySem.F.plainAttrs_list PySem.F.slot_list_clear PySem.F.type_list_clear mt_clear (pe_ix ix_tup (pv 8) pe_int (fun _ _ => rfl))))) pss_nil)
      (pss_one (ps_if (PW.pt (pw_or (pt_cmpR (op_neD hu) (pe_call G_renumbered (hr.mono (by decide)) rfl m_renumbered k_renumbered b_renumbered .nil pass0 (pa_cons (pv 5) pa_nil)) (pv 7) (nomark _)) (pw_or1 (pt_cmpR op_ne (pe_callB (call_reprG gd hu) (by rfl) z_repr (by decide +kernel) (pa_cons (pv 5) pa_nil)) (pv 6) (nomark _))))) (pss_one (ps_ret pe_bl)) pss_nil)))))))))))))))))))))
      (pss_one (ps_ret pe_bl))), ?_⟩
  refine ⟨_, rfl, _, rfl, a, _, rfl, ha, fun p1 hp1 => ⟨sz (by simp), fun p2 hp2 => ?_⟩⟩
  have S1 := same_new hp1 (.lst (cutV (ns.map V.int) none (some 5)))
  have l1 := @upd_same H p1 (.lst (cutV (ns.map V.int) none (some 5)))
  have S2 := S1.trans (same_new hp2 (.lst [V.int 0]))
  have l1' := same_new hp2 (.lst [V.int 0]) _ _ l1
  have l2 := @upd_same (upd H p1 (.lst (cutV (ns.map V.int) none (some 5)))) p2 (.lst [V.int 0])
  have n2 : (cutV (ns.map V.int) none (some 5)).length ≤ 900 := Nat.le_trans (cutV_length _ _ _) (by rw [List.length_map]; exact hn)
  have hcut : ∀ v ∈ cutV (ns.map V.int) none (some 5) ++ [V.int 0], ∃ c : Int, v = .int c := fun v hv => by
    rcases List.mem_append.mp hv with hv | hv
    · obtain ⟨c, _, e⟩ := List.mem_map.mp (mem_cut hv)
      exact ⟨c, e.symm⟩
    · exact ⟨_, List.mem_singleton.mp hv⟩
  generalize upd (upd H p1 (.lst (cutV (ns.map V.int) none (some 5)))) p2 (.lst [V.int 0]) = H3 at *
  generalize cutV (ns.map V.int) none (some 5) = cells at *
  refine ⟨p1, p2, _, _, rfl, rfl, l1', l2, sz (by simp; omega), fun p3 hp3 => ?_⟩
  have l3 := @upd_same H3 p3 (.lst (cells ++ [V.int 0]))
  generalize upd H3 p3 (.lst (cells ++ [V.int 0])) = H4 at *
  clear S1 S2 l1' l2 hp3
  refine ⟨p3, rfl, ⟨_, SqL.of l3⟩, ?_⟩
  refine for_list (K := K) (a := p3) (xs := cells ++ [V.int 0]) (fun i σ X => ∃ s1 s2 s3 s4 s5 s6 s7 s8 s9 s10 s11 s12 s13 s14 s15 s16 s17 s18 : Option V, σ = [some (.ref a), s1, s2, s3, s4, s5, s6, s7, s8, s9, s10, s11, s12, s13, s14, s15, s16, s17, s18] ∧ Same H4 X)
    ⟨none, none, none, none, none, none, none, none, none, none, none, none, none, none, none, none, none, none, rfl, Same.refl _⟩ (fun i σ X hi ⟨_, _, _, _, _, _, _, _, _, _, _, _, _, _, _, _, _, _, _, g⟩ => SqL.of (g _ _ l3)) ?_ ?_
  · rintro i x σ X hx ⟨s1, s2, s3, s4, s5, s6, s7, s8, s9, s10, s11, s12, s13, s14, s15, s16, s17, s18, rfl, g⟩
    obtain ⟨c, rfl⟩ := hcut x (List.mem_of_getElem? hx)
    refine gn ?_
    refine ⟨_, rfl, c, rfl, fun s X0 S0 c0 n0 => ?_⟩
    refine gn ?_
    have hs4 : H4 s = none := g.fr n0
    have g0 := g.trans S0
    refine ⟨_, rfl, by decide, by decide, ?_⟩
    refine for_range (lo := 0) (n := 3) (fun i σ X => ∃ s3 s4 s5 s6 s7 s8 s9 s10 s11 s12 s13 s14 s15 s16 s17 s18 : Option V, σ = [some (.ref a), some (.int c), some (.ref s), s3, s4, s5, s6, s7, s8, s9, s10, s11, s12, s13, s14, s15, s16, s17, s18] ∧ Same H4 X ∧ Src X s)
      ⟨s3, s4, s5, s6, s7, s8, s9, s10, s11, s12, s13, s14, s15, s16, s17, s18, rfl, g0, c0⟩ ?_ ?_
    · clear s3 s4 s5 s6 s7 s8 s9 s10 s11 s12 s13 s14 s15 s16 s17 s18 hx g c0 g0 S0 n0 X0 X
      rintro i σ X hi ⟨s3, s4, s5, s6, s7, s8, s9, s10, s11, s12, s13, s14, s15, s16, s17, s18, rfl, g, cS⟩
      refine gn ?_
      refine ⟨_, rfl, s, rfl, cS, fun d X1 W k1 c1 o hd => ?_⟩
      refine gn ?_
      refine ⟨_, rfl, _, rfl, s, 51, rfl, c1, by decide, by decide, fun r X2 r0 r1 k2 c2 => ?_⟩
      obtain ⟨r, rfl⟩ := Int.eq_ofNat_of_zero_le r0
      have hd2 := hd.keep k2 c1
      refine ⟨_, rfl, s, d, r, W, rfl, c2, o, hd2, by omega, by omega, fun v X3 t k3 c3 tr dn => ?_⟩
      refine gn ?_
      have hd3 := hd2.keep k3 c2
      have tr3 := tr.same nw_sub
      have l : Lw W.lab t := dn.lw o (by omega)
      have mk := dr_marks dn.dr
      have t149 := dn.small (by omega)
      have gA : Same H4 X3 := Keep.ghost ((k1.trans k2).trans k3) g hs4
      clear tr hd2 hd k3 c2 k2 c1 k1 cS g r0 r1 dn X X1 X2
      have tx := ydata_tx l.gd.nm
      have txd := l.dd
      have txl : (t.data).shown.length ≤ sizeLine := lb16 (Nat.le_trans tx.sz (by have := l.sz; omega))
      obtain ⟨nn, nd2⟩ := num_nm l
      obtain ⟨lab2, l2⟩ := l.num
      have tx2 := ydata_tx nn
      have txl2 : ((t.num []).1.data).shown.length ≤ sizeLine := lb16 (Nat.le_trans tx2.sz (by have := l2.sz; omega))
      refine ⟨_, rfl, v, t.data, rfl, .inl tr3.dp, tx.sh, Nat.le_trans tx.dp (by omega), txl, _, rfl, sz (by simp), fun l0 hl0 => ?_⟩
      have Sl := same_new hl0 (.lst [])
      refine ⟨v, t, l0, [], X3, rfl, upd_same, Sl, hl0, tr3, l.gd.wy, l.sz, by have := l.sz; simp only [List.length_nil]; omega, l.dp, fun rd X4 k4 e4 trd => ?_⟩
      have S4 : Same X3 X4 := k4.ghost Sl hl0
      have trd4 := trd.same (un_le S4 nw_sub)
      refine ⟨_, _, rfl, ?_⟩
      refine ⟨_, rfl, v, t, W.lab, rfl, tr3.same S4, l.gt, fun vt X5 S5 trt tpt => ?_⟩
      refine gn ?_
      dsimp only
      have S45 := S4.trans S5
      have c5 := c3.same S45
      have trt5 := trt.same nw_sub
      have sh2 := ty_shaped nn nd2
      have e2 := eqv_self _ tx2.lay
      refine ⟨_, rfl, _, rfl, _, _, trt5.dp, (trd4.same S5).dp, sh2, sh2, _, rfl, ?_⟩
      refine ifF (by rw [e2]; rfl) ?_
      refine ⟨_, rfl, vt, _, rfl, .inl trt5.dp, tx2.sh, Nat.le_trans tx2.dp (by omega), txl2, _, rfl, rd, _, rfl, .inl (trd4.same S5).dp, tx2.sh, Nat.le_trans tx2.dp (by omega), txl2, rfl, _, rfl, ?_⟩
      refine ifF (by simp) ?_
      refine ⟨_, rfl, vt, _, lab2, rfl, trt5, l2.gt, fun v6 X6 S6 tr6 _ => ?_⟩
      rw [num_num] at tr6
      have trd6 := (trd4.same S5).same S6
      refine ⟨_, rfl, _, _, (tr6.same nw_sub).dp, trd6.dp, sh2, sh2, _, rfl, ?_⟩
      refine ifF (by rw [e2]; rfl) ?_
      refine ⟨_, rfl, v, _, rfl, .inl ((tr3.same S45).same S6).dp, tx.sh, Nat.le_trans tx.dp (by omega), txl, _, rfl, rfl, _, rfl, ?_⟩
      refine ifF (by simp) ?_
      have c6 := c5.same S6
      have S46 := S4.trans (S5.trans S6)
      have tr6' := tr3.same S46
      have hd6 : WoR X6 d W := hd3.keep S46.keep c3
      clear tr6
      have gA6 : Same H4 (off s X6) := (gA.trans S46).off hs4
      have trG := tr6'.keep keep_off c6
      have hdG : WoR (off s X6) d W := hd6.keep keep_off c6
      have trdG := trd6.keep keep_off c6
      have g46 : Same (off s X4) (off s X6) := Keep.offD (S5.trans S6).keep
      have hGs : off s X6 s = none := off_at
      have g6 : Same (off s X6) X6 := off_same
      have c4 := c3.same S4
      have trG4 := (tr3.same S4).keep keep_off c4
      have trdG4 := trd4.keep keep_off c4
      have gA4 : Same H4 (off s X4) := (gA.trans S4).off hs4
      have hnw : Same (nw X4 X5) (nw X4 (off s X6)) := fun b o e => by
        obtain ⟨e1, e2⟩ := nw_get e
        rw [nw_of e1, off_ne ((c3.same S4).ne e1)]
        exact S6 _ _ e2
      have trtG : ∃ w xs, vt = .ref w ∧ SqT K (off s X6) w (.str (t.num []).1.hd.word :: xs) := by
        obtain ⟨w, xs, e, hx⟩ := (trt.same hnw).tuple
        exact ⟨w, _, e, nw_sub.tupS hx⟩
      have tptG : TopL (nw X4 (off s X6)) vt (t.num []).1 := tpt.same hnw
      clear hnw tpt trt trt5 trd6 tr6' hd6 tr3 trd trd4 hd3 gA c3 c5 k4 e4 hl0 Sl
      generalize off s X6 = G6 at *
      refine nxt_seq ?_
      obtain ⟨va, ta, la, lb, lc, w1, w2, w3, w4, w5, w6⟩ := hdG
      have dv : ∀ Y, Same G6 Y → DGet Y d (.str "vars") (some (.ref va)) := fun Y g => by
        have z := DGet.k (k := .inr "vars") (g _ _ w1)
        have e : valV [((.inr "vars" : Key), V.ref va), (.inr "tails", .ref ta)] (.inr "vars") = some (.ref va) := by simp [valV]
        rw [e] at z
        exact z
      refine ⟨_, rfl, d, .ref va, rfl, dv _ g6, _, rfl, d, .ref ta, rfl, WoR.tails (g6 _ _ w1), ta, _, rfl, .inl (g6 _ _ w3), fun pk hpk => ?_⟩
      rw [show (List.map (fun kv : Key × V => kV kv.1) [(.inl (W.nr 4 : Nat), .ref la), (.inl (W.nr 5 : Nat), .ref lb), (.inl (W.nr 6 : Nat), .ref lc)]) = [V.int (W.nr 4 : Nat), V.int (W.nr 5 : Nat), V.int (W.nr 6 : Nat)] from rfl]
      have Sk := same_new hpk (.lst [V.int (W.nr 4 : Nat), V.int (W.nr 5 : Nat), V.int (W.nr 6 : Nat)])
      refine ⟨va, pk, _, _, rfl, rfl, Sk _ _ (g6 _ _ w2), upd_same, sz (by simp), fun pq hpq => ?_⟩
      have Sq := Sk.trans (same_new hpq (.lst (((List.range 4).map fun k => V.int (W.nr k : Nat)) ++ [V.int (W.nr 4 : Nat), V.int (W.nr 5 : Nat), V.int (W.nr 6 : Nat)])))
      have lq : upd (upd X6 pk (.lst [V.int (W.nr 4 : Nat), V.int (W.nr 5 : Nat), V.int (W.nr 6 : Nat)])) pq (.lst (((List.range 4).map fun k => V.int (W.nr k : Nat)) ++ [V.int (W.nr 4 : Nat), V.int (W.nr 5 : Nat), V.int (W.nr 6 : Nat)])) pq = some (.lst ((List.range 7).map fun k => V.int (W.nr k : Nat))) := upd_same
      have cq := c6.same Sq
      have gq := g6.trans Sq
      generalize upd (upd X6 pk (.lst [V.int (W.nr 4 : Nat), V.int (W.nr 5 : Nat), V.int (W.nr 6 : Nat)])) pq (.lst (((List.range 4).map fun k => V.int (W.nr k : Nat)) ++ [V.int (W.nr 4 : Nat), V.int (W.nr 5 : Nat), V.int (W.nr 6 : Nat)])) = X7 at *
      have nqs : pq ≠ s := fun z => by
        obtain ⟨x, y, z2, e⟩ := cq
        rw [z, e] at lq
        injection lq with lq
        injection lq with lq
        exact absurd (congrArg List.length lq) (by simp)
      clear Sk Sq hpk
      refine ⟨_, rfl, sz (by simp), fun pm hpm => ?_⟩
      have Sm1 := same_new hpm (.lst [V.int 1, V.int 3, V.int 9, V.int 77])
      refine ⟨s, pm, _, rfl, cq.same Sm1, SqL.of upd_same, .inl (fun x y z e => absurd (congrArg List.length e) (by simp)), by simp, by simp, fun sv X9 hsv k9 c9 => ?_⟩
      obtain ⟨st, hst, rfl⟩ : ∃ st : Nat, (st = 1 ∨ st = 3 ∨ st = 9 ∨ st = 77) ∧ sv = .int (st : Nat) := by
        simp only [List.mem_cons, List.not_mem_nil, or_false] at hsv
        rcases hsv with rfl | rfl | rfl | rfl
        · exact ⟨1, by simp, rfl⟩
        · exact ⟨3, by simp, rfl⟩
        · exact ⟨9, by simp, rfl⟩
        · exact ⟨77, by simp, rfl⟩
      have hcm : -(2 ^ 64) < ((st : Nat) : Int) ∧ ((st : Nat) : Int) < 2 ^ 64 := by rcases hst with h | h | h | h <;> rw [h] <;> decide
      have g9 := k9.ghost (gq.trans Sm1) hGs
      have lq9 := k9 _ _ nqs (Sm1 _ _ lq)
      refine ⟨sz (by simp), fun pt hpt => ?_⟩
      have St1 := same_new hpt (.tup [V.ref pq, V.int (st : Nat)])
      refine ⟨pt, _, rfl, SqT.of upd_same, rfl, ?_⟩
      refine ⟨_, _, rfl, ⟨_, _, rfl, ⟨rfl, ?_⟩⟩⟩
      have cd := c9.same St1
      have gd9 := g9.trans St1
      have lqd := St1 _ _ lq9
      dsimp only
      generalize upd X9 pt (.tup [V.ref pq, V.int (st : Nat)]) = X10 at *
      clear k9 c9 g9 lq9 hpt St1 Sm1 hpm hsv gq cq lq
      refine ⟨_, rfl, s, 1000, rfl, cd, by decide, by decide, fun fv X11 f0 f1 k11 c11 => ?_⟩
      obtain ⟨fi, rfl⟩ := Int.eq_ofNat_of_zero_le f0
      have g11 := k11.ghost gd9 hGs
      have lq11 := k11 _ _ nqs lqd
      clear k11 gd9 lqd cd f0
      refine gn ?_
      refine ⟨_, rfl, pq, _, rfl, SqL.of lq11, fun pv hpv => ?_⟩
      have Sv := same_new hpv (.lst ((List.range 7).map fun k => V.int (W.nr k : Nat)).reverse)
      have lv := @upd_same X11 pv (.lst ((List.range 7).map fun k => V.int (W.nr k : Nat)).reverse)
      have cv := c11.same Sv
      have gv := g11.trans Sv
      generalize upd X11 pv (.lst ((List.range 7).map fun k => V.int (W.nr k : Nat)).reverse) = X12 at *
      clear Sv c11 g11 lq11 hpv
      refine ⟨pv, _, rfl, SqL.of lv, fun D hD => ?_⟩
      refine lc_it (walk_enum (K := K) (a := pv) (xs := ((List.range 7).map fun k => V.int (W.nr k : Nat)).reverse)) (fun i Z => ∃ (G : Hp) (qs : List Addr), Same G Z ∧ G D = none ∧ Same X12 G ∧ Z D = some (.lst (qs.map V.ref)) ∧ qs.length = i ∧ ∀ j p, qs[j]? = some p → SqT K G p [V.int (W.nr (6 - j) : Nat), V.int (((fi + st * j) % 1000 : Nat) : Int)])
        ⟨X12, [], same_new hD _, hD, Same.refl _, upd_same, rfl, fun j p e => by simp at e⟩ (fun i Z hi ⟨G, _, k1, _, k3, _⟩ => SqL.of ((k3.trans k1) _ _ lv)) ?_ ?_
      · rintro j x Z Z' hj ⟨G, qs, k1, k2, k3, k4, k5, k6⟩ ⟨T0, y, z, rfl, hT0, rfl, hy, hz⟩
        cases hy
        have ST := same_new hT0 (.tup [V.int (j : Nat), z])
        have k1' := k1.trans ST
        have k4' := ST _ _ k4
        have hj7 : j < 7 := by simpa using hj
        have ez : z = V.int (W.nr (6 - j) : Nat) := by
          have hz' : (((List.range 7).map fun k => V.int (W.nr k : Nat)).reverse)[j]? = some z := hz
          rw [rev7 _ hj7] at hz'
          injection hz' with hz'
          exact hz'.symm
        subst ez
        refine ⟨T0, _, rfl, SqT.of upd_same, rfl, ?_⟩
        refine ⟨_, _, rfl, ⟨_, _, rfl, rfl, ?_⟩⟩
        refine ⟨rfl, ?_⟩
        refine yes_of (ifTt rfl ?_)
        generalize upd Z T0 (.tup [V.int (j : Nat), V.int (W.nr (6 - j) : Nat)]) = Z1 at *
        refine ⟨_, rfl, _, rfl, _, rfl, _, rfl, _, _, rfl, rfl, .inl hcm, _, _, rfl, rfl, .inl ⟨_, rfl, _, _, rfl, rfl, (by show (0 : Int) < 1000; decide), sz (by simp), fun pt hpt => ?_⟩⟩
        have St := same_new hpt (.tup [V.int (W.nr (6 - j) : Nat), V.int (((fi + st * j) % 1000 : Nat) : Int)])
        have ptD : pt ≠ D := fun z => by rw [z, k4'] at hpt; cases hpt
        have gg : Same G (off D (upd Z1 pt (.tup [V.int (W.nr (6 - j) : Nat), V.int (((fi + st * j) % 1000 : Nat) : Int)]))) := (k1'.trans St).off k2
        refine ⟨qs.map V.ref, St _ _ k4', sz (by rw [List.length_map]; omega), off D _, qs ++ [pt], off_same.wr off_at, off_at, k3.trans gg, ?_, by simp [k5], fun j' p e => ?_⟩
        · rw [upd_same, List.map_append]
          rfl
        · rcases getSnoc e with ⟨q1, e⟩ | ⟨q1, rfl⟩
          · exact gg.tupS (k6 j' p e)
          · rw [q1, k5]
            refine SqT.of ?_
            rw [off_ne ptD, upd_same]
            rfl
      · rintro Z ⟨G, qs, k1, k2, k3, k4, k5, k6⟩
        have k5' : qs.length = 7 := by simpa using k5
        clear k5
        obtain ⟨q0, q1, q2, q3, q4, q5, q6, rfl⟩ : ∃ q0 q1 q2 q3 q4 q5 q6, qs = [q0, q1, q2, q3, q4, q5, q6] := by
          match qs, k5' with
          | [q0, q1, q2, q3, q4, q5, q6], _ => exact ⟨_, _, _, _, _, _, _, rfl⟩
        have kt : ∀ j p, [q0, q1, q2, q3, q4, q5, q6][j]? = some p → SqT K Z p [V.int (W.nr (6 - j) : Nat), V.int (((fi + st * j) % 1000 : Nat) : Int)] := fun j p e => k1.tupS (k6 j p e)
        have gZ := gv.trans (k3.trans k1)
        have cZ := cv.same (k3.trans k1)
        refine ⟨D, _, nkv W fi st, rfl, SqL.of k4, paired7 kt, fun pn hpn => ?_⟩
        have Sn := same_new hpn (.dK (mergeK [] (nkv W fi st)))
        have ln := @upd_same Z pn (.dK (mergeK [] (nkv W fi st)))
        have gn6 : G6 pn = none := gZ.fr hpn
        have cn := cZ.same Sn
        have gN := gZ.trans Sn
        generalize upd Z pn (.dK (mergeK [] (nkv W fi st))) = X13 at *
        clear Sn hpn gZ cZ kt k1 k2 k3 k4 k6 gv cv lv hD
        have hval := nkv_val o fi st
        have hnl := nkv_len W fi st
        refine gn ?_
        refine ⟨_, rfl, _, rfl, v, t, pn, _, nfn W fi st, X13, rfl, ln, (fun m hm => ?_), Same.refl _, trG.same gN, l.gd.wy, l.sz, l.dp, fun ro X14 S14 tro => ?_⟩
        · obtain ⟨k, hk, rfl⟩ := mk m hm
          exact hval k hk
        refine gn ?_
        have hinj : inj (nfn W fi st) t.marks := fun a ha b hb e => by
          obtain ⟨j, hj, rfl⟩ := mk a ha
          obtain ⟨k, hk, rfl⟩ := mk b hb
          rw [nfn_inj o hst hj hk e]
        have lo : Lw (relab (nfn W fi st) W.lab t.marks) (t.map (nfn W fi st)) := l.map (fun m hm => by
          obtain ⟨k, hk, rfl⟩ := mk m hm
          rw [nfn_at o hk]
          omega) fun a ha b hb e => by rw [hinj a ha b hb e]
        have tro' := tro.same (un_le S14 nw_sub)
        refine ⟨_, rfl, ro, _, _, rfl, tro', lo.gt, fun v15 X15 S15 tr15 _ => ?_⟩
        rw [text_map hinj] at tr15
        have g15 := gN.trans (S14.trans S15)
        refine ⟨_, rfl, _, _, (tr15.same nw_sub).dp, (trdG.same g15).dp, sh2, sh2, _, rfl, ?_⟩
        refine ifF (by rw [e2]; rfl) ?_
        refine ⟨_, rfl, ro, _, _, rfl, tro'.same S15, lo.gt, fun z1 X16 S16 ez1 => ?_⟩
        refine ⟨_, rfl, v, t, W.lab, rfl, trG.same (g15.trans S16), l.gt, fun z2 X17 S17 ez2 => ?_⟩
        have ezz : z1 = z2 := ext_tl (by rw [ez1, ez2]; unfold Ty.text; rw [text_map hinj])
        subst ezz
        refine ⟨rfl, _, rfl, ?_⟩
        refine ifF (by simp) ?_
        have S137 := S14.trans (S15.trans (S16.trans S17))
        have g17 := g15.trans (S16.trans S17)
        have c17 := cn.same S137
        have ln17 := S137 _ _ ln
        clear tr15 tro tro' S14 S15 S16 S17 S137 g15 gN cn ln lo
        refine nxt_seq ?_
        refine ⟨_, rfl, _, rfl, v, t, X17, rfl, Same.refl _, trG.same g17, l.gd.wy, l.sz, l.dp, fun pp xs X18 S18 hpp epp lpp vpp => ?_⟩
        have tpos := t.pos
        refine ⟨s, pp, xs, rfl, c17.same S18, SqL.of epp, .inl (No3.of_ref fun u hu i e => ?_), (fun e => by rw [e] at lpp; simp at lpp; omega), (by rw [lpp]; omega), fun pth X19 hpth k19 c19 => ?_⟩
        · obtain ⟨b, _, eb, _⟩ := vpp u hu
          rw [eb] at e
          cases e
        obtain ⟨pa, qs, rfl, hpa, zsub, hsub⟩ := vpp pth hpth
        have hpa19 := k19.tup (c17.same S18) hpa
        have g19 := k19.ghost (g17.trans S18) hGs
        have npn : pn ≠ s := fun z => by
          obtain ⟨x, y, z2, e⟩ := c17
          rw [z, e] at ln17
          cases ln17
        have ln19 := k19 _ _ npn (S18 _ _ ln17)
        clear vpp hpth lpp epp hpp k19 c17 S18 ln17 g17 hpa
        refine gn ?_
        refine nx_seq ?_
        refine ⟨_, rfl, _, rfl, _, rfl, sz (by simp), fun ti hti => ?_⟩
        have Si := same_new hti (.tup [V.str "int"])
        have li := @upd_same X19 ti (.tup [V.str "int"])
        generalize upd X19 ti (.tup [V.str "int"]) = Y1 at *
        refine ⟨sz (by simp), fun tb htb => ?_⟩
        have Sb := same_new htb (.tup [V.str "bool"])
        have lb2 := @upd_same Y1 tb (.tup [V.str "bool"])
        generalize upd Y1 tb (.tup [V.str "bool"]) = Y2 at *
        have Sib := Si.trans Sb
        have gy2 := g19.trans Sib
        refine ⟨_, rfl, d, .ref va, rfl, dv _ gy2, va, _, _, _, rfl, rfl, SqL.of (gy2 _ _ w2), atI_nat (j := 0) rfl, sz (by simp), fun tv htv => ?_⟩
        have Sv := same_new htv (.tup [V.str "var", V.int (W.nr 0 : Nat)])
        have lv2 := @upd_same Y2 tv (.tup [V.str "var", V.int (W.nr 0 : Nat)])
        refine ⟨sz (by simp), fun pl hpl => ?_⟩
        have Sl := same_new hpl (.lst [V.ref ti, V.ref tb, V.ref tv])
        have ll := @upd_same (upd Y2 tv (.tup [V.str "var", V.int (W.nr 0 : Nat)])) pl (.lst [V.ref ti, V.ref tb, V.ref tv])
        have lvl := Sl _ _ lv2
        have Svl := Sv.trans Sl
        generalize upd (upd Y2 tv (.tup [V.str "var", V.int (W.nr 0 : Nat)])) pl (.lst [V.ref ti, V.ref tb, V.ref tv]) = Y4 at *
        have S4' := Sib.trans Svl
        have cY := c19.same S4'
        have gY := g19.trans S4'
        have lnY := S4' _ _ ln19
        have hpaY := S4'.tupS hpa19
        have leafs : ∀ lv ∈ [V.ref ti, V.ref tb, V.ref tv], ∃ u : Ty, Tr K Y4 lv u ∧ Gd W.lab u ∧ u.size = 1 ∧ u.deep = 1 ∧ u.dd = 2 ∧ ∀ m ∈ u.marks, m = W.nr 0 := fun lv hlv => by
          simp only [List.mem_cons, List.not_mem_nil, or_false] at hlv
          rcases hlv with rfl | rfl | rfl
          · exact ⟨.node .int [], .int (SqT.of (Svl _ _ (Sb _ _ li))), .mk rfl trivial (fun t m => by cases m), rfl, rfl, rfl, fun m hm => by simp [Ty.marks, Ty.markss, Hy.mark] at hm⟩
          · exact ⟨.node .bool [], .bool (SqT.of (Svl _ _ lb2)), .mk rfl trivial (fun t m => by cases m), rfl, rfl, rfl, fun m hm => by simp [Ty.marks, Ty.markss, Hy.mark] at hm⟩
          · exact ⟨.node (.var (W.nr 0)) [], .var (SqT.of lvl), .mk rfl ⟨W.nr9 0, o.lab_v (by decide)⟩ (fun t m => by cases m), rfl, rfl, rfl, fun m hm => by simpa [Ty.marks, Ty.markss, Hy.mark] using hm⟩
        clear Si li hti Sb lb2 htb Sib gy2 Sv lv2 htv Sl lvl Svl S4' hpa19 ln19 g19 c19
        refine ⟨s, pl, _, rfl, cY, SqL.of ll, .inl (No3.of_ref fun u hu i e => ?_), by simp, by simp, fun lv X20 hlv k20 c20 => ?_⟩
        · simp only [List.mem_cons, List.not_mem_nil, or_false] at hu
          rcases hu with rfl | rfl | rfl <;> cases e
        obtain ⟨u, tru, gu, u1, u2, u3, mu⟩ := leafs lv hlv
        have tru20 := tru.keep k20 cY
        have hpa20 := k20.tup cY hpaY
        have g20 := k20.ghost gY hGs
        have ln20 := k20 _ _ npn lnY
        clear leafs hlv k20 cY hpaY gY lnY ll hpl tru
        refine ⟨v, t, pa, qs, lv, u, X20, rfl, Same.refl _, trG.same g20, l.gd.wy, l.sz, l.dp, hpa20, ⟨zsub, hsub⟩, tru20, fun rb X21 S21 trb => ?_⟩
        refine gn ?_
        have lb' : Lw W.lab (t.put qs u) := l.put gu u1 u2 u3 qs
        have mkb : ∀ m ∈ (t.put qs u).marks, ∃ k, k < 7 ∧ m = W.nr k := fun m hm => by
          rcases put_marks u qs t m hm with h | h
          · exact mk m h
          · exact ⟨0, by decide, mu m h⟩
        have trb21 := trb.same (un_le S21 nw_sub)
        have g21 := g20.trans S21
        have c21 := c20.same S21
        have ln21 := S21 _ _ ln20
        clear hpa20 ln20 g20 c20 tru20 trb S21 gu u1 u2 u3 mu hsub
        generalize t.put qs u = tb' at *
        refine nx_seq ?_
        have hv1 := DGet.k (k := .inl ((W.nr 1 : Nat) : Int)) ln21
        rw [hval 1 (by decide)] at hv1
        refine ⟨_, rfl, _, rfl, d, .ref va, rfl, dv _ g21, va, _, _, _, rfl, rfl, SqL.of (g21 _ _ w2), atI_nat (j := 1) rfl, pn, _, rfl, hv1, _, rfl, _, rfl, d, .ref va, rfl, dv _ g21, va, _, _, _, rfl, rfl, SqL.of (g21 _ _ w2), atI_nat (j := 0) rfl, pn, _, rfl, DPut.k (k := .inl ((W.nr 0 : Nat) : Int)) ln21 (small1000 (by omega)), ?_⟩
        have ln22 := @upd_same X21 pn (.dK (putK (mergeK [] (nkv W fi st)) (.inl ((W.nr 0 : Nat) : Int)) (.int (nfn W fi st (W.nr 1) : Nat))))
        have g22 : Same G6 (upd X21 pn (.dK (putK (mergeK [] (nkv W fi st)) (.inl ((W.nr 0 : Nat) : Int)) (.int (nfn W fi st (W.nr 1) : Nat))))) := g21.wr gn6
        have c22 : Src (upd X21 pn (.dK (putK (mergeK [] (nkv W fi st)) (.inl ((W.nr 0 : Nat) : Int)) (.int (nfn W fi st (W.nr 1) : Nat))))) s := c21.wr npn
        have trb22 : Tr K (upd X21 pn (.dK (putK (mergeK [] (nkv W fi st)) (.inl ((W.nr 0 : Nat) : Int)) (.int (nfn W fi st (W.nr 1) : Nat))))) rb tb' := trb21.updD ln21
        have hval2 : ∀ k, k < 7 → valV (putK (mergeK [] (nkv W fi st)) (.inl ((W.nr 0 : Nat) : Int)) (.int (nfn W fi st (W.nr 1) : Nat))) (.inl ((W.nr k : Nat) : Int)) = some (.int (nf2 W fi st (W.nr k) : Nat)) := fun k hk => nf2_val o hval hk
        generalize upd X21 pn (.dK (putK (mergeK [] (nkv W fi st)) (.inl ((W.nr 0 : Nat) : Int)) (.int (nfn W fi st (W.nr 1) : Nat)))) = X22 at *
        generalize putK (mergeK [] (nkv W fi st)) (.inl ((W.nr 0 : Nat) : Int)) (.int (nfn W fi st (W.nr 1) : Nat)) = kvs2 at *
        clear hv1 g21 c21 ln21 trb21 hval hnl
        have lw2 : ∀ (x : Ty), Lw W.lab x → (∀ m ∈ x.marks, ∃ k, k < 7 ∧ m = W.nr k) → Lw (relab (nf2 W fi st) W.lab x.marks) (x.map (nf2 W fi st)) := fun x lx mx => lx.map (fun m hm => by
          obtain ⟨k, hk, rfl⟩ := mx m hm
          exact nf2_le o hk) fun a ha b hb e => by
          obtain ⟨j, hj, rfl⟩ := mx a ha
          obtain ⟨k, hk, rfl⟩ := mx b hb
          exact nf2_lab o hst hj hk e
        refine nx_seq ?_
        refine ⟨_, rfl, _, rfl, _, rfl, v, t, pn, kvs2, nf2 W fi st, X22, rfl, ln22, (fun m hm => ?_), Same.refl _, trG.same g22, l.gd.wy, l.sz, l.dp, fun ro1 X23 S23 tr23 => ?_⟩
        · obtain ⟨k, hk, rfl⟩ := mk m hm
          exact hval2 k hk
        have tr23' := tr23.same (un_le S23 nw_sub)
        refine ⟨_, rfl, _, rfl, rb, tb', pn, kvs2, nf2 W fi st, X23, rfl, S23 _ _ ln22, (fun m hm => ?_), Same.refl _, trb22.same S23, lb'.gd.wy, lb'.sz, lb'.dp, fun ro2 X24 S24 tr24 => ⟨sz (by simp), fun pt hpt => ?_⟩⟩
        · obtain ⟨k, hk, rfl⟩ := mkb m hm
          exact hval2 k hk
        have tr24' := tr24.same (un_le S24 nw_sub)
        have Sp := same_new hpt (.tup [rb, ro1, ro2])
        have lp := @upd_same X24 pt (.tup [rb, ro1, ro2])
        have S25 := (S23.trans S24).trans Sp
        have t25 : ∀ (i : Nat) x, [rb, ro1, ro2][i]? = some x → ∃ (tx : Ty) (labx : Nat → Option (List Str)), Tr K (upd X24 pt (.tup [rb, ro1, ro2])) x tx ∧ Lw labx tx := fun i x e => by
          match i, e with
          | 0, e => injection e with e; subst e; exact ⟨tb', _, trb22.same S25, lb'⟩
          | 1, e => injection e with e; subst e; exact ⟨_, _, tr23'.same (S24.trans Sp), lw2 t l mk⟩
          | 2, e => injection e with e; subst e; exact ⟨_, _, tr24'.same Sp, lw2 tb' lb' mkb⟩
        have g25 := g22.trans S25
        have c25 := c22.same S25
        have trb25 := trb22.same S25
        generalize upd X24 pt (.tup [rb, ro1, ro2]) = X25 at *
        clear tr23 tr23' tr24 tr24' Sp S25 hpt S23 S24 g22 c22 trb22 ln22 hval2 lw2
        refine ⟨pt, rfl, ⟨_, SqT.of lp⟩, ?_⟩
        refine for_tup (K := K) (a := pt) (xs := [rb, ro1, ro2]) (fun j σ Y => ∃ s16 : Option V, σ = [some (.ref a), some (.int c), some (.ref s), some (.int (0 + (i : Nat))), some (.ref d), some v, some (.str t.data.shown), some rd, some vt, some (.ref pq), some (.int (st : Nat)), some (.int (fi : Nat)), some (.ref pn), some ro, some (.ref pa), some rb, s16, s17, s18] ∧ Same X25 Y)
          ⟨s16, rfl, Same.refl _⟩ (fun j σ Y hj ⟨_, _, g⟩ => SqT.of (g _ _ lp)) ?_ ?_
        · rintro j x σ Y hx ⟨s16', rfl, gY⟩
          obtain ⟨tx', labx, trx, lx⟩ := t25 j x hx
          refine gn ?_
          refine ⟨_, rfl, _, rfl, v, x, t, tx', W.lab, labx, rfl, trG.same (g25.trans gY), trx.same gY, l, lx, fun Y1 T1 => ⟨_, rfl, ?_⟩⟩
          refine ifF rfl ?_
          refine ⟨_, rfl, _, rfl, rb, x, tb', tx', W.lab, labx, rfl, trb25.same (gY.trans T1), trx.same (gY.trans T1), lb', lx, fun Y2 T2 => ⟨_, rfl, ?_⟩⟩
          refine ifF rfl ?_
          exact ⟨some x, rfl, gY.trans (T1.trans T2)⟩
        · rintro σ Y ⟨s16', rfl, gY⟩
          have gE := g25.trans gY
          have cE := c25.same gY
          clear t25 trb25 g25 c25 gY lp
          obtain ⟨w0, xs0, rfl, hx0⟩ := trtG
          refine nx_one ?_
          refine ⟨fun σ' Y' => σ' = [some (.ref a), some (.int c), some (.ref s), some (.int (0 + (i : Nat))), some (.ref d), some v, some (.str t.data.shown), some rd, some (.ref w0), some (.ref pq), some (.int (st : Nat)), some (.int (fi : Nat)), some (.ref pn), some ro, some (.ref pa), some rb, s16', s17, s18] ∧ Same (off s X4) Y' ∧ Src Y' s, ?_, ?_⟩
          · refine ⟨_, rfl, w0, _, _, _, rfl, rfl, gE.tupS hx0, at0, sz (by simp), fun p9 hp9 => ?_⟩
            have S9 := same_new hp9 (.tup [V.str "tuple", V.str "record"])
            have l9 := @upd_same Y p9 (.tup [V.str "tuple", V.str "record"])
            have g9 := gE.trans S9
            have c9 := cE.same S9
            generalize upd Y p9 (.tup [V.str "tuple", V.str "record"]) = Y9 at *
            refine ⟨p9, _, rfl, .inr (SqT.of l9), rfl, rfl, _, rfl, ?_⟩
            show (if inV (V.str (t.num []).1.hd.word) [V.str "tuple", V.str "record"] = true then _ else _)
            by_cases ct : (t.num []).1.hd = .tup ∨ ∃ ls m, (t.num []).1.hd = .rcd ls m
            · refine ifT (w_tr1 ct) ?_
              obtain ⟨a9, lt, us9, rest9, e9, h91, h92⟩ := tptG ct
              injection e9 with e9
              subst e9
              have hlt := (nw_get h92).1
              have h92' := g9 _ _ (nw_get h92).2
              refine ⟨_, rfl, w0, _, _, _, rfl, rfl, SqT.of (g9 _ _ (nw_get h91).2), atI_nat (j := 1) rfl, .inl ⟨rfl, _, SqL.of h92'⟩, lt, us9, rfl, rfl, h92', ?_⟩
              refine ⟨rfl, (g46.trans g9).wr (by rw [off_ne (c4.ne hlt)]; exact hlt), c9.wr (c4.ne hlt)⟩
            · refine ifF (w_tr2 ct) ?_
              exact ⟨rfl, g46.trans g9, c9⟩
          · rintro σ' Y' ⟨rfl, gF, cF⟩
            refine ⟨_, rfl, v, t, W.lab, rfl, trG4.same gF, l.gt, fun v30 X30 S30 tr30 _ => ?_⟩
            refine ⟨_, rfl, _, _, (tr30.same nw_sub).dp, ((trdG4.same gF).same S30).dp, sh2, sh2, _, rfl, ?_⟩
            refine ifF (by rw [e2]; rfl) ?_
            refine ⟨_, rfl, v, _, rfl, .inl ((trG4.same gF).same S30).dp, tx.sh, Nat.le_trans tx.dp (by omega), txl, _, rfl, rfl, _, rfl, ?_⟩
            refine ifF (by simp) ?_
            exact ⟨_, _, _, _, _, _, _, _, _, _, _, _, _, _, _, _, rfl, (gA4.trans gF).trans S30, cF.same S30⟩
    · rintro σ X ⟨s3, s4, s5, s6, s7, s8, s9, s10, s11, s12, s13, s14, s15, s16, s17, s18, rfl, g, _⟩
      exact ⟨_, _, _, _, _, _, _, _, _, _, _, _, _, _, _, _, _, _, rfl, g⟩
  · rintro σ X ⟨s1, s2, s3, s4, s5, s6, s7, s8, s9, s10, s11, s12, s13, s14, s15, s16, s17, s18, rfl, g⟩
    exact q X
end
end Vt


set_option Elab.async false
set_option linter.all false
set_option maxRecDepth 100000
set_option maxHeartbeats 4000000
namespace Vt
open PySem PySem.Spec PyProof.Rows L2
/-! ### all of the defs as they stand behind the top -/
theorem ok_void {P : Program} {w : World} {K : PySem.W.Frag} {mg : Str → Option Value} {base : Heap} {k : Nat} {x : Str} {st : Stmt} {ps : List Str} {sp : Sp} {CX : CXT} (S : Stands K mg x st ps) (h : ∀ vs H Q E, ¬ sp vs H Q E) : DefOk P w K mg base CX k x ps sp := by
  obtain ⟨f, fd, F, hm, hb⟩ := S
  exact ⟨f, fd, ⟨fun vs H Q E z => (h _ _ _ _ z).elim, fun A outer s H args us vs Q E _ _ _ _ z => (h _ _ _ _ z).elim⟩, hm, F.kp, hb⟩
theorem DefOk.mono {P : Program} {w : World} {K : PySem.W.Frag} {mg : Str → Option Value} {base : Heap} {CX : CXT} {j k : Nat} {x : Str} {ps : List Str} {sp : Sp} (D : DefOk P w K mg base CX j x ps sp) (h : j ≤ k) : DefOk P w K mg base CX k x ps sp := by
  obtain ⟨f, fd, F, hm, hk, hb⟩ := D
  exact ⟨f, fd, F.mono h, hm, hk, hb⟩
theorem stands {K : PySem.W.Frag} {mg : Str → Option Value} {h : Heap} {x : Str} {st : Stmt} {ps : List Str} {f : Addr} {oc : Value} {od an : Option Addr} {sl : Array (Option Value)} {kV dc pm cd ct : Value} (X : K.In h) (G : h.Ns mainGlobals mg) (a : PySem.W.nsIn K mainGlobals x = some (some (.ref f)))
    (l : K.lookup f = some ⟨oc, od, .func (PySem.W.fnOf x x (defArgs st) (defBody st) (defScope st) .none kV dc pm an cd ct), sl⟩) (c : PySem.W.codeIn K cd x = true) (k : PySem.W.keepIn K (.ref f) = true)
    (b : ∀ (kV doc pm : Value) (an : Option Addr) (cdv ct : Value) (us : List Value), us.length = ps.length → bindArgs (PySem.W.fnOf x x (defArgs st) (defBody st) (defScope st) .none kV doc pm an cdv ct) ⟨us, []⟩ = pure (ps.zip us)) : Stands K mg x st ps :=
  ⟨f, _, fun_mk l c k, PySem.W.mg_of X G a, (fun_mk l c k).binds b⟩
theorem standsM {K : PySem.W.Frag} {C : Addr} {m q : Str} {st : Stmt} {ps : List Str} {f : Addr} {oc : Value} {od an : Option Addr} {sl : Array (Option Value)} {kV dc pm cd ct : Value} (a : PySem.W.findIn K (.ref C) m = some (some (.ref f))) (i : PySem.W.isFn K (.ref f) = true)
    (l : K.lookup f = some ⟨oc, od, .func (PySem.W.fnOf m q (defArgs st) (defBody st) (defScope st) .none kV dc pm an cd ct), sl⟩) (c : PySem.W.codeIn K cd q = true) (k : PySem.W.keepIn K (.ref f) = true)
    (b : ∀ (kV doc pm : Value) (an : Option Addr) (cdv ct : Value) (us : List Value), us.length = ps.length → bindArgs (PySem.W.fnOf m q (defArgs st) (defBody st) (defScope st) .none kV doc pm an cdv ct) ⟨us, []⟩ = pure (ps.zip us)) : StandsM K C m q st ps :=
  ⟨f, _, fun_mk l c k, ⟨a, i, k⟩, (fun_mk l c k).binds b⟩
theorem standsI {K : PySem.W.Frag} {C : Addr} {q : Str} {st : Stmt} {ps : List Str} {f : Addr} {oc : Value} {od an : Option Addr} {sl : Array (Option Value)} {kV dc pm cd ct : Value} (mk : PySem.W.makesIn K C = true) (kc : PySem.W.keepIn K (.ref C) = true) (a : PySem.W.findIn K (.ref C) "__init__" = some (some (.ref f))) (i : PySem.W.isFn K (.ref f) = true)
    (l : K.lookup f = some ⟨oc, od, .func (PySem.W.fnOf "__init__" q (defArgs st) (defBody st) (defScope st) .none kV dc pm an cd ct), sl⟩) (c : PySem.W.codeIn K cd q = true) (k : PySem.W.keepIn K (.ref f) = true)
    (b : ∀ (kV doc pm : Value) (an : Option Addr) (cdv ct : Value) (us : List Value), us.length = ps.length → bindArgs (PySem.W.fnOf "__init__" q (defArgs st) (defBody st) (defScope st) .none kV doc pm an cdv ct) ⟨us, []⟩ = pure (ps.zip us)) : StandsI K C q st ps :=
  ⟨f, _, fun_mk l c k, ⟨mk, a, i, kc⟩, (fun_mk l c k).binds b⟩
structure SvAll (K : PySem.W.Frag) (mg : Str → Option Value) (C : Addr) : Prop where
  cl : SvC K mg C
  ini : StandsI K C "Survey.__init__" s_Survey___init__ ["self"]
  tak : StandsM K C "take" "Survey.take" s_Survey_take ["self", "level"]
  mrk : StandsM K C "takes_mark" "Survey.takes_mark" s_Survey_takes_mark ["self", "node"]
/-- the law's own defs -/
structure LawDefs (K : PySem.W.Frag) (mg : Str → Option Value) : Prop where
  law_source_of_ : Stands K mg "_law_source_of" s_law_source_of ["cell"]
  law_next_ : Stands K mg "_law_next" s_law_next ["source", "many"]
  law_one_ : Stands K mg "_law_one" s_law_one ["source", "some"]
  law_labels_ : Stands K mg "_law_labels" s_law_labels ["source", "most"]
  law_world_ : Stands K mg "_law_world" s_law_world ["source"]
  law_tree_ : Stands K mg "_law_tree" s_law_tree ["source", "room", "world"]
  law_below_ : Stands K mg "_law_below" s_law_below ["tree"]
  law_with_ : Stands K mg "_law_with" s_law_with ["tree", "some"]
  law_paths_ : Stands K mg "_law_paths" s_law_paths ["tree"]
  law_put_ : Stands K mg "_law_put" s_law_put ["tree", "path", "value"]
  law_numbered_ : Stands K mg "_law_numbered" s_law_numbered ["tree", "seen"]
  law_place_ : Stands K mg "_law_place" s_law_place ["number", "seen"]
  law_other_ : Stands K mg "_law_other" s_law_other ["tree", "numbers"]
  law_alike_right_ : Stands K mg "_law_alike_right" s_law_alike_right ["one", "other"]
  law_ : Stands K mg "law" s_law ["script"]
/-- the program's defs -/
structure CoreDefs (K : PySem.W.Frag) (mg : Str → Option Value) : Prop where
  is_integer_ : Stands K mg "is_integer" s_is_integer ["value"]
  is_integer_within_ : Stands K mg "is_integer_within" s_is_integer_within ["value", "least", "greatest"]
  are_names_ : Stands K mg "are_names" s_are_names ["values"]
  are_ascending_ : Stands K mg "are_ascending" s_are_ascending ["names"]
  are_fields_ : Stands K mg "are_fields" s_are_fields ["value", "most"]
  are_items_ : Stands K mg "are_items" s_are_items ["value"]
  is_mark_ : Stands K mg "is_mark" s_is_mark ["value"]
  inner_of_var_ : Stands K mg "inner_of_var" s_inner_of_var ["node"]
  inner_of_constant_ : Stands K mg "inner_of_constant" s_inner_of_constant ["node"]
  inner_of_fun_ : Stands K mg "inner_of_fun" s_inner_of_fun ["node"]
  inner_of_tuple_ : Stands K mg "inner_of_tuple" s_inner_of_tuple ["node"]
  inner_of_record_ : Stands K mg "inner_of_record" s_inner_of_record ["node"]
  inner_trees_ : Stands K mg "inner_trees" s_inner_trees ["value"]
  labels_of_ : Stands K mg "labels_of" s_labels_of ["node"]
  survey_if_tree_ : Stands K mg "survey_if_tree" s_survey_if_tree ["value"]
  survey_of_ : Stands K mg "survey_of" s_survey_of ["tree"]
  check_tree_ : Stands K mg "check_tree" s_check_tree ["value"]
  numbered_anew_ : Stands K mg "numbered_anew" s_numbered_anew ["tree", "numbers"]
  renumbered_ : Stands K mg "renumbered" s_renumbered ["tree"]
  mark_name_ : Stands K mg "mark_name" s_mark_name ["number"]
  needs_brackets_ : Stands K mg "needs_brackets" s_needs_brackets ["around", "step", "within"]
  name_of_ : Stands K mg "name_of" s_name_of ["mark", "numbers"]
  part_text_ : Stands K mg "part_text" s_part_text ["around", "step", "tree", "numbers"]
  record_text_ : Stands K mg "record_text" s_record_text ["fields", "tail"]
  written_tree_ : Stands K mg "written_tree" s_written_tree ["tree", "numbers"]
  tree_text_ : Stands K mg "tree_text" s_tree_text ["tree"]
structure TabY (w : World) (K : PySem.W.Frag) (mg : Str → Option Value) (D : Addr) (es : Array DictEntry) (n : Nat) : Prop where
  at_ : mg "INNER_OF" = some (.ref D)
  kd : KDict K w D es n
  t_var : ∃ f : Addr, PySem.W.nsIn K D "var" = some (some (.ref f)) ∧ mg "inner_of_var" = some (.ref f)
  t_int : ∃ f : Addr, PySem.W.nsIn K D "int" = some (some (.ref f)) ∧ mg "inner_of_constant" = some (.ref f)
  t_bool : ∃ f : Addr, PySem.W.nsIn K D "bool" = some (some (.ref f)) ∧ mg "inner_of_constant" = some (.ref f)
  t_fun : ∃ f : Addr, PySem.W.nsIn K D "fun" = some (some (.ref f)) ∧ mg "inner_of_fun" = some (.ref f)
  t_tuple : ∃ f : Addr, PySem.W.nsIn K D "tuple" = some (some (.ref f)) ∧ mg "inner_of_tuple" = some (.ref f)
  t_record : ∃ f : Addr, PySem.W.nsIn K D "record" = some (some (.ref f)) ∧ mg "inner_of_record" = some (.ref f)
section
variable {P : Program} {w : World} {K : PySem.W.Frag} {mg : Str → Option Value} {base : Heap}
theorem held_in {x wd : Str} {D : Addr} (h : DefOk P w K mg base CX0 4 x ["node"] (spInY K wd)) (t : ∃ f : Addr, PySem.W.nsIn K D wd = some (some (.ref f)) ∧ mg x = some (.ref f)) : ∃ f : Addr, PySem.W.nsIn K D wd = some (some (.ref f)) ∧ Held P w K mg base 4 f (spInY K wd) := by
  obtain ⟨f, e, m⟩ := t
  obtain ⟨g, fd, F, m2, k, b⟩ := h
  rw [m] at m2
  cases m2
  exact ⟨f, e, ⟨fd, _, F, k, b⟩⟩
theorem check_ok {D C : Addr} {es : Array DictEntry} {n : Nat} (S : CoreDefs K mg) (SV : SvAll K mg C) (Z : Blt mg) (C0 : CstT mg) (T : TabY w K mg D es n) : DefOk P w K mg base CX0 9 "check_tree" ["value"] (spCheck K) := by
  have h1 := ok_is_integer (P := P) (w := w) (base := base) S.is_integer_ Z
  have h2 := ok_is_integer_within S.is_integer_within_ Z h1
  have h4 := ok_are_ascending (P := P) (w := w) (base := base) S.are_ascending_ Z
  have h5 := ok_are_names (P := P) (w := w) (base := base) S.are_names_ Z C0
  have h6 := ok_are_fields S.are_fields_ Z h5 h4
  have h7 := ok_are_items (P := P) (w := w) (base := base) S.are_items_ Z C0
  have h8 := ok_is_mark S.is_mark_ C0 h2
  have KD : KindsY P w K mg base D es n := by
    refine ⟨T.at_, T.kd, fun h => ?_⟩
    cases h with
    | var _ => exact held_in (ok_in_var S.inner_of_var_ Z h8) T.t_var
    | int => exact held_in (ok_in_constant "int" (.inl rfl) S.inner_of_constant_ Z) T.t_int
    | bool => exact held_in (ok_in_constant "bool" (.inr rfl) S.inner_of_constant_ Z) T.t_bool
    | fn => exact held_in (ok_in_fun S.inner_of_fun_ Z) T.t_fun
    | tup => exact held_in (ok_in_tuple S.inner_of_tuple_ Z h7) T.t_tuple
    | rcd _ _ => exact held_in (ok_in_record S.inner_of_record_ Z C0 h6 h8) T.t_record
  have hi := ok_inner_trees S.inner_trees_ Z KD
  have hl := ok_labels_of (P := P) (w := w) (base := base) S.labels_of_
  have hm := ok_takes_mark SV.cl SV.mrk hl
  have hI := ok_sur_init (P := P) (w := w) (base := base) SV.cl SV.ini
  have ht := ok_take Z C0 SV.cl SV.tak hi hm
  exact ok_check_tree S.check_tree_ (ok_survey_of S.survey_of_ (ok_survey_if_tree SV.cl S.survey_if_tree_ hI ht))
theorem num_ok (S : CoreDefs K mg) (Z : Blt mg) : ∀ n, DefOk P w K mg base CX0 (n + 1) "numbered_anew" ["tree", "numbers"] (spNum K n) := by
  intro n
  induction n with
  | zero => exact ok_numbered0 S.numbered_anew_
  | succ n ih => exact ok_numbered S.numbered_anew_ Z ih
theorem wr_ok (S : CoreDefs K mg) (Z : Blt mg) (zd : mg "divmod" = none) (hL : ∃ t, mg "LETTERS" = some (.str "abcdefghijklmnopqrstuvwxyz" t)) : ∀ n, DefOk P w K mg base CX0 (2 * n + 3) "written_tree" ["tree", "numbers"] (spWr K n) := by
  have h1 := ok_mark_name (P := P) (w := w) (K := K) (base := base) S.mark_name_ Z zd hL
  have h2 := ok_needs (P := P) (w := w) (base := base) S.needs_brackets_
  have h3 := ok_name_of S.name_of_ Z h1
  have h4 := ok_record_text (P := P) (w := w) (base := base) S.record_text_
  intro n
  induction n with
  | zero => exact ok_written0 S.written_tree_
  | succ n ih => exact ok_written (k := 2 * n) S.written_tree_ Z ih (ok_part_text (k := 2 * n) S.part_text_ ih h2) h3 h4
theorem tree_ok (S : LawDefs K mg) (Z : Blt mg) : ∀ n, DefOk P w K mg base CX0 (n + 3) "_law_tree" ["source", "room", "world"] (spTree K n) := by
  have h1 := ok_next (P := P) (w := w) (K := K) (base := base) S.law_next_ Z
  have h2 := ok_one S.law_one_ Z h1
  have h3 := ok_labels S.law_labels_ Z h1
  intro n
  induction n with
  | zero => exact ok_void S.law_tree_ fun vs H Q E ⟨_, _, r, _, _, _, _, _, z, _⟩ => absurd z (Nat.not_lt_zero r)
  | succ n ih => exact ok_tree S.law_tree_ Z h1 h2 h3 ih
theorem lnum_ok (S : LawDefs K mg) (Z : Blt mg) : ∀ n, DefOk P w K mg base CX0 (n + 2) "_law_numbered" ["tree", "seen"] (spNumL K n) := by
  intro n
  induction n with
  | zero => exact ok_lnum0 S.law_numbered_
  | succ n ih => exact ok_lnum S.law_numbered_ Z ih (ok_place S.law_place_) (ok_below S.law_below_ Z) (ok_with S.law_with_ Z)
theorem other_ok (S : LawDefs K mg) (Z : Blt mg) : ∀ n, DefOk P w K mg base CX0 (n + 2) "_law_other" ["tree", "numbers"] (spOther K n) := by
  intro n
  induction n with
  | zero => exact ok_other0 S.law_other_
  | succ n ih => exact ok_other S.law_other_ Z ih (ok_below S.law_below_ Z) (ok_with S.law_with_ Z)
theorem paths_ok (S : LawDefs K mg) (Z : Blt mg) : ∀ n, DefOk P w K mg base CX0 (n + 2) "_law_paths" ["tree"] (spPaths K n) := by
  intro n
  induction n with
  | zero => exact ok_paths0 S.law_paths_
  | succ n ih => exact ok_paths S.law_paths_ Z ih (ok_below S.law_below_ Z)
theorem put_ok (S : LawDefs K mg) (Z : Blt mg) : ∀ n, DefOk P w K mg base CX0 (n + 2) "_law_put" ["tree", "path", "value"] (spPut K n) := by
  intro n
  induction n with
  | zero => exact ok_put0 S.law_put_
  | succ n ih => exact ok_put S.law_put_ Z ih (ok_below S.law_below_ Z) (ok_with S.law_with_ Z)
theorem law_ok {D C : Addr} {es : Array DictEntry} {n : Nat} (S : LawDefs K mg) (S1 : CoreDefs K mg) (SV : SvAll K mg C) (Z : Blt mg) (zd : mg "dict" = none) (zm : mg "divmod" = none) (C0 : CstT mg) (hL : ∃ t, mg "LETTERS" = some (.str "abcdefghijklmnopqrstuvwxyz" t)) (T : TabY w K mg D es n)
    {f : Addr} {fd : FuncData} (FL : Fun K "law" "law" s_law f fd) : FnG P w K mg base CX0 206 f fd ["script"] (spLaw K) := by
  have hc := check_ok (P := P) (base := base) S1 SV Z C0 T
  have hr := ok_renumbered S1.renumbered_ hc (num_ok S1 Z 100)
  have ht := ok_tree_text S1.tree_text_ hc (wr_ok S1 Z zm hL 100)
  have h1 := ok_next (P := P) (w := w) (K := K) (base := base) S.law_next_ Z
  have h2 := ok_one S.law_one_ Z h1
  have h3 := ok_labels S.law_labels_ Z h1
  have hw := ok_world S.law_world_ Z zd (h1.mono (by decide)) h2 h3
  exact ok_law FL Z zd (ok_source S.law_source_of_ Z) h1 h2 hw (tree_ok S Z 51) (lnum_ok S Z 90) (other_ok S Z 90) (paths_ok S Z 90) (put_ok S Z 90) (ok_alike S.law_alike_right_ (lnum_ok S Z 90) ht hr) ht hr
theorem need {h : Heap} {x : Str} {st : Stmt} {ps : List Str} {A : Prop} (_ : K.In h) (S : Stands K mg x st ps) (k : Stands K mg x st ps → A) : A := k S
theorem needN {h : Heap} {x : Str} {i : Int} {A : Prop} (_ : K.In h) (S : ∃ t, mg x = some (.int i t)) (k : (∃ t, mg x = some (.int i t)) → A) : A := k S
theorem needS {h : Heap} {x z : Str} {A : Prop} (_ : K.In h) (S : ∃ t, mg x = some (.str z t)) (k : (∃ t, mg x = some (.str z t)) → A) : A := k S
theorem needV {h : Heap} {A : Prop} (_ : K.In h) (S : ∃ C, SvAll K mg C) (k : ∀ C, SvAll K mg C → A) : A := (fun ⟨C, e⟩ => k C e) S
theorem noattr {C : Addr} {x : Str} (e : PySem.W.findIn K (.ref C) x = some none) : NoAttr K C x := e
theorem tab_of {h : Heap} {D f : Addr} {x y : Str} (X : K.In h) (G : h.Ns mainGlobals mg) (a : PySem.W.nsIn K D x = some (some (.ref f))) (b : PySem.W.nsIn K mainGlobals y = some (some (.ref f))) : ∃ f : Addr, PySem.W.nsIn K D x = some (some (.ref f)) ∧ mg y = some (.ref f) := ⟨f, a, PySem.W.mg_of X G b⟩
theorem need1 {h : Heap} {A : Prop} (_ : K.In h) (S : ∃ D es n, TabY w K mg D es n) (k : ∀ D es n, TabY w K mg D es n → A) : A := by
  obtain ⟨D, es, n, a⟩ := S
  exact k D es n a
end
end Vt


set_option Elab.async false
set_option linter.all false
set_option maxRecDepth 100000
open PySem PySem.W PyProof.Rows
set_option maxHeartbeats 0 in
theorem PySem.Challenge.cw_vasttypes_k14_renumbered_trees_holds : PySem.Challenge.rw_vasttypes_k14_renumbered_trees.Holds := by
  w_on; o_law; k_head; (case hw => w_witness2)
  k_fill
  refine Vt.walkG (l := PySem.Challenge.rw_vasttypes_k14_renumbered_trees) (n := 63) (k := 206) (sp := Vt.spLaw) (x := "script") (by decide +kernel) (by decide) rfl ⟨rfl, by decide, by decide⟩ (fun w h Y => PySem.W.kIn_of Y) ?F ?S
  case S =>
    intro K H a ns h1 h2 h3
    exact ⟨a, ns, rfl, h3, by omega, fun _ => rfl⟩
  case F =>
    intro w mg fa h KX G hmg
    refine' Vt.need (x := "_law_source_of") (st := Vt.s_law_source_of) (ps := ["cell"]) (mg := mg) KX ?s fun S_law_source_of => ?_
    (case s =>
      refine' Vt.stands KX G ?a ?l ?c ?k (fun _ _ _ _ _ _ us hl => match us, hl with | [_], _ => rfl)
      (case a => k_is); (case l => k_is); (case c => k_is); (case k => k_is))
    refine' Vt.need (x := "_law_next") (st := Vt.s_law_next) (ps := ["source", "many"]) (mg := mg) KX ?s fun S_law_next => ?_
    (case s =>
      refine' Vt.stands KX G ?a ?l ?c ?k (fun _ _ _ _ _ _ us hl => match us, hl with | [_, _], _ => rfl)
      (case a => k_is); (case l => k_is); (case c => k_is); (case k => k_is))
    refine' Vt.need (x := "_law_one") (st := Vt.s_law_one) (ps := ["source", "some"]) (mg := mg) KX ?s fun S_law_one => ?_
    (case s =>
      refine' Vt.stands KX G ?a ?l ?c ?k (fun _ _ _ _ _ _ us hl => match us, hl with | [_, _], _ => rfl)
      (case a => k_is); (case l => k_is); (case c => k_is); (case k => k_is))
    refine' Vt.need (x := "_law_labels") (st := Vt.s_law_labels) (ps := ["source", "most"]) (mg := mg) KX ?s fun S_law_labels => ?_
    (case s =>
      refine' Vt.stands KX G ?a ?l ?c ?k (fun _ _ _ _ _ _ us hl => match us, hl with | [_, _], _ => rfl)
      (case a => k_is); (case l => k_is); (case c => k_is); (case k => k_is))
    refine' Vt.need (x := "_law_world") (st := Vt.s_law_world) (ps := ["source"]) (mg := mg) KX ?s fun S_law_world => ?_
    (case s =>
      refine' Vt.stands KX G ?a ?l ?c ?k (fun _ _ _ _ _ _ us hl => match us, hl with | [_], _ => rfl)
      (case a => k_is); (case l => k_is); (case c => k_is); (case k => k_is))
    refine' Vt.need (x := "_law_tree") (st := Vt.s_law_tree) (ps := ["source", "room", "world"]) (mg := mg) KX ?s fun S_law_tree => ?_
    (case s =>
      refine' Vt.stands KX G ?a ?l ?c ?k (fun _ _ _ _ _ _ us hl => match us, hl with | [_, _, _], _ => rfl)
      (case a => k_is); (case l => k_is); (case c => k_is); (case k => k_is))
    refine' Vt.need (x := "_law_below") (st := Vt.s_law_below) (ps := ["tree"]) (mg := mg) KX ?s fun S_law_below => ?_
    (case s =>
      refine' Vt.stands KX G ?a ?l ?c ?k (fun _ _ _ _ _ _ us hl => match us, hl with | [_], _ => rfl)
      (case a => k_is); (case l => k_is); (case c => k_is); (case k => k_is))
    refine' Vt.need (x := "_law_with") (st := Vt.s_law_with) (ps := ["tree", "some"]) (mg := mg) KX ?s fun S_law_with => ?_
    (case s =>
      refine' Vt.stands KX G ?a ?l ?c ?k (fun _ _ _ _ _ _ us hl => match us, hl with | [_, _], _ => rfl)
      (case a => k_is); (case l => k_is); (case c => k_is); (case k => k_is))
    refine' Vt.need (x := "_law_paths") (st := Vt.s_law_paths) (ps := ["tree"]) (mg := mg) KX ?s fun S_law_paths => ?_
    (case s =>
      refine' Vt.stands KX G ?a ?l ?c ?k (fun _ _ _ _ _ _ us hl => match us, hl with | [_], _ => rfl)
      (case a => k_is); (case l => k_is); (case c => k_is); (case k => k_is))
    refine' Vt.need (x := "_law_put") (st := Vt.s_law_put) (ps := ["tree", "path", "value"]) (mg := mg) KX ?s fun S_law_put => ?_
    (case s =>
      refine' Vt.stands KX G ?a ?l ?c ?k (fun _ _ _ _ _ _ us hl => match us, hl with | [_, _, _], _ => rfl)
      (case a => k_is); (case l => k_is); (case c => k_is); (case k => k_is))
    refine' Vt.need (x := "_law_numbered") (st := Vt.s_law_numbered) (ps := ["tree", "seen"]) (mg := mg) KX ?s fun S_law_numbered => ?_
    (case s =>
      refine' Vt.stands KX G ?a ?l ?c ?k (fun _ _ _ _ _ _ us hl => match us, hl with | [_, _], _ => rfl)
      (case a => k_is); (case l => k_is); (case c => k_is); (case k => k_is))
    refine' Vt.need (x := "_law_place") (st := Vt.s_law_place) (ps := ["number", "seen"]) (mg := mg) KX ?s fun S_law_place => ?_
    (case s =>
      refine' Vt.stands KX G ?a ?l ?c ?k (fun _ _ _ _ _ _ us hl => match us, hl with | [_, _], _ => rfl)
      (case a => k_is); (case l => k_is); (case c => k_is); (case k => k_is))
    refine' Vt.need (x := "_law_other") (st := Vt.s_law_other) (ps := ["tree", "numbers"]) (mg := mg) KX ?s fun S_law_other => ?_
    (case s =>
      refine' Vt.stands KX G ?a ?l ?c ?k (fun _ _ _ _ _ _ us hl => match us, hl with | [_, _], _ => rfl)
      (case a => k_is); (case l => k_is); (case c => k_is); (case k => k_is))
    refine' Vt.need (x := "_law_alike_right") (st := Vt.s_law_alike_right) (ps := ["one", "other"]) (mg := mg) KX ?s fun S_law_alike_right => ?_
    (case s =>
      refine' Vt.stands KX G ?a ?l ?c ?k (fun _ _ _ _ _ _ us hl => match us, hl with | [_, _], _ => rfl)
      (case a => k_is); (case l => k_is); (case c => k_is); (case k => k_is))
    refine' Vt.need (x := "law") (st := Vt.s_law) (ps := ["script"]) (mg := mg) KX ?s fun S_law => ?_
    (case s =>
      refine' Vt.stands KX G ?a ?l ?c ?k (fun _ _ _ _ _ _ us hl => match us, hl with | [_], _ => rfl)
      (case a => k_is); (case l => k_is); (case c => k_is); (case k => k_is))
    refine' Vt.need (x := "is_integer") (st := Vt.s_is_integer) (ps := ["value"]) (mg := mg) KX ?s fun S_is_integer => ?_
    (case s =>
      refine' Vt.stands KX G ?a ?l ?c ?k (fun _ _ _ _ _ _ us hl => match us, hl with | [_], _ => rfl)
      (case a => k_is); (case l => k_is); (case c => k_is); (case k => k_is))
    refine' Vt.need (x := "is_integer_within") (st := Vt.s_is_integer_within) (ps := ["value", "least", "greatest"]) (mg := mg) KX ?s fun S_is_integer_within => ?_
    (case s =>
      refine' Vt.stands KX G ?a ?l ?c ?k (fun _ _ _ _ _ _ us hl => match us, hl with | [_, _, _], _ => rfl)
      (case a => k_is); (case l => k_is); (case c => k_is); (case k => k_is))
    refine' Vt.need (x := "are_names") (st := Vt.s_are_names) (ps := ["values"]) (mg := mg) KX ?s fun S_are_names => ?_
    (case s =>
      refine' Vt.stands KX G ?a ?l ?c ?k (fun _ _ _ _ _ _ us hl => match us, hl with | [_], _ => rfl)
      (case a => k_is); (case l => k_is); (case c => k_is); (case k => k_is))
    refine' Vt.need (x := "are_ascending") (st := Vt.s_are_ascending) (ps := ["names"]) (mg := mg) KX ?s fun S_are_ascending => ?_
    (case s =>
      refine' Vt.stands KX G ?a ?l ?c ?k (fun _ _ _ _ _ _ us hl => match us, hl with | [_], _ => rfl)
      (case a => k_is); (case l => k_is); (case c => k_is); (case k => k_is))
    refine' Vt.need (x := "are_fields") (st := Vt.s_are_fields) (ps := ["value", "most"]) (mg := mg) KX ?s fun S_are_fields => ?_
    (case s =>
      refine' Vt.stands KX G ?a ?l ?c ?k (fun _ _ _ _ _ _ us hl => match us, hl with | [_, _], _ => rfl)
      (case a => k_is); (case l => k_is); (case c => k_is); (case k => k_is))
    refine' Vt.need (x := "are_items") (st := Vt.s_are_items) (ps := ["value"]) (mg := mg) KX ?s fun S_are_items => ?_
    (case s =>
      refine' Vt.stands KX G ?a ?l ?c ?k (fun _ _ _ _ _ _ us hl => match us, hl with | [_], _ => rfl)
      (case a => k_is); (case l => k_is); (case c => k_is); (case k => k_is))
    refine' Vt.need (x := "is_mark") (st := Vt.s_is_mark) (ps := ["value"]) (mg := mg) KX ?s fun S_is_mark => ?_
    (case s =>
      refine' Vt.stands KX G ?a ?l ?c ?k (fun _ _ _ _ _ _ us hl => match us, hl with | [_], _ => rfl)
      (case a => k_is); (case l => k_is); (case c => k_is); (case k => k_is))
    refine' Vt.need (x := "inner_of_var") (st := Vt.s_inner_of_var) (ps := ["node"]) (mg := mg) KX ?s fun S_inner_of_var => ?_
    (case s =>
      refine' Vt.stands KX G ?a ?l ?c ?k (fun _ _ _ _ _ _ us hl => match us, hl with | [_], _ => rfl)
      (case a => k_is); (case l => k_is); (case c => k_is); (case k => k_is))
    refine' Vt.need (x := "inner_of_constant") (st := Vt.s_inner_of_constant) (ps := ["node"]) (mg := mg) KX ?s fun S_inner_of_constant => ?_
    (case s =>
      refine' Vt.stands KX G ?a ?l ?c ?k (fun _ _ _ _ _ _ us hl => match us, hl with | [_], _ => rfl)
      (case a => k_is); (case l => k_is); (case c => k_is); (case k => k_is))
    refine' Vt.need (x := "inner_of_fun") (st := Vt.s_inner_of_fun) (ps := ["node"]) (mg := mg) KX ?s fun S_inner_of_fun => ?_
    (case s =>
      refine' Vt.stands KX G ?a ?l ?c ?k (fun _ _ _ _ _ _ us hl => match us, hl with | [_], _ => rfl)
      (case a => k_is); (case l => k_is); (case c => k_is); (case k => k_is))
    refine' Vt.need (x := "inner_of_tuple") (st := Vt.s_inner_of_tuple) (ps := ["node"]) (mg := mg) KX ?s fun S_inner_of_tuple => ?_
    (case s =>
      refine' Vt.stands KX G ?a ?l ?c ?k (fun _ _ _ _ _ _ us hl => match us, hl with | [_], _ => rfl)
      (case a => k_is); (case l => k_is); (case c => k_is); (case k => k_is))
    refine' Vt.need (x := "inner_of_record") (st := Vt.s_inner_of_record) (ps := ["node"]) (mg := mg) KX ?s fun S_inner_of_record => ?_
    (case s =>
      refine' Vt.stands KX G ?a ?l ?c ?k (fun _ _ _ _ _ _ us hl => match us, hl with | [_], _ => rfl)
      (case a => k_is); (case l => k_is); (case c => k_is); (case k => k_is))
    refine' Vt.need (x := "inner_trees") (st := Vt.s_inner_trees) (ps := ["value"]) (mg := mg) KX ?s fun S_inner_trees => ?_
    (case s =>
      refine' Vt.stands KX G ?a ?l ?c ?k (fun _ _ _ _ _ _ us hl => match us, hl with | [_], _ => rfl)
      (case a => k_is); (case l => k_is); (case c => k_is); (case k => k_is))
    refine' Vt.need (x := "labels_of") (st := Vt.s_labels_of) (ps := ["node"]) (mg := mg) KX ?s fun S_labels_of => ?_
    (case s =>
      refine' Vt.stands KX G ?a ?l ?c ?k (fun _ _ _ _ _ _ us hl => match us, hl with | [_], _ => rfl)
      (case a => k_is); (case l => k_is); (case c => k_is); (case k => k_is))
    refine' Vt.need (x := "survey_if_tree") (st := Vt.s_survey_if_tree) (ps := ["value"]) (mg := mg) KX ?s fun S_survey_if_tree => ?_
    (case s =>
      refine' Vt.stands KX G ?a ?l ?c ?k (fun _ _ _ _ _ _ us hl => match us, hl with | [_], _ => rfl)
      (case a => k_is); (case l => k_is); (case c => k_is); (case k => k_is))
    refine' Vt.need (x := "survey_of") (st := Vt.s_survey_of) (ps := ["tree"]) (mg := mg) KX ?s fun S_survey_of => ?_
    (case s =>
      refine' Vt.stands KX G ?a ?l ?c ?k (fun _ _ _ _ _ _ us hl => match us, hl with | [_], _ => rfl)
      (case a => k_is); (case l => k_is); (case c => k_is); (case k => k_is))
    refine' Vt.need (x := "check_tree") (st := Vt.s_check_tree) (ps := ["value"]) (mg := mg) KX ?s fun S_check_tree => ?_
    (case s =>
      refine' Vt.stands KX G ?a ?l ?c ?k (fun _ _ _ _ _ _ us hl => match us, hl with | [_], _ => rfl)
      (case a => k_is); (case l => k_is); (case c => k_is); (case k => k_is))
    refine' Vt.need (x := "numbered_anew") (st := Vt.s_numbered_anew) (ps := ["tree", "numbers"]) (mg := mg) KX ?s fun S_numbered_anew => ?_
    (case s =>
      refine' Vt.stands KX G ?a ?l ?c ?k (fun _ _ _ _ _ _ us hl => match us, hl with | [_, _], _ => rfl)
      (case a => k_is); (case l => k_is); (case c => k_is); (case k => k_is))
    refine' Vt.need (x := "renumbered") (st := Vt.s_renumbered) (ps := ["tree"]) (mg := mg) KX ?s fun S_renumbered => ?_
    (case s =>
      refine' Vt.stands KX G ?a ?l ?c ?k (fun _ _ _ _ _ _ us hl => match us, hl with | [_], _ => rfl)
      (case a => k_is); (case l => k_is); (case c => k_is); (case k => k_is))
    refine' Vt.need (x := "mark_name") (st := Vt.s_mark_name) (ps := ["number"]) (mg := mg) KX ?s fun S_mark_name => ?_
    (case s =>
      refine' Vt.stands KX G ?a ?l ?c ?k (fun _ _ _ _ _ _ us hl => match us, hl with | [_], _ => rfl)
      (case a => k_is); (case l => k_is); (case c => k_is); (case k => k_is))
    refine' Vt.need (x := "needs_brackets") (st := Vt.s_needs_brackets) (ps := ["around", "step", "within"]) (mg := mg) KX ?s fun S_needs_brackets => ?_
    (case s =>
      refine' Vt.stands KX G ?a ?l ?c ?k (fun _ _ _ _ _ _ us hl => match us, hl with | [_, _, _], _ => rfl)
      (case a => k_is); (case l => k_is); (case c => k_is); (case k => k_is))
    refine' Vt.need (x := "name_of") (st := Vt.s_name_of) (ps := ["mark", "numbers"]) (mg := mg) KX ?s fun S_name_of => ?_
    (case s =>
      refine' Vt.stands KX G ?a ?l ?c ?k (fun _ _ _ _ _ _ us hl => match us, hl with | [_, _], _ => rfl)
      (case a => k_is); (case l => k_is); (case c => k_is); (case k => k_is))
    refine' Vt.need (x := "part_text") (st := Vt.s_part_text) (ps := ["around", "step", "tree", "numbers"]) (mg := mg) KX ?s fun S_part_text => ?_
    (case s =>
      refine' Vt.stands KX G ?a ?l ?c ?k (fun _ _ _ _ _ _ us hl => match us, hl with | [_, _, _, _], _ => rfl)
      (case a => k_is); (case l => k_is); (case c => k_is); (case k => k_is))
    refine' Vt.need (x := "record_text") (st := Vt.s_record_text) (ps := ["fields", "tail"]) (mg := mg) KX ?s fun S_record_text => ?_
    (case s =>
      refine' Vt.stands KX G ?a ?l ?c ?k (fun _ _ _ _ _ _ us hl => match us, hl with | [_, _], _ => rfl)
      (case a => k_is); (case l => k_is); (case c => k_is); (case k => k_is))
    refine' Vt.need (x := "written_tree") (st := Vt.s_written_tree) (ps := ["tree", "numbers"]) (mg := mg) KX ?s fun S_written_tree => ?_
    (case s =>
      refine' Vt.stands KX G ?a ?l ?c ?k (fun _ _ _ _ _ _ us hl => match us, hl with | [_, _], _ => rfl)
      (case a => k_is); (case l => k_is); (case c => k_is); (case k => k_is))
    refine' Vt.need (x := "tree_text") (st := Vt.s_tree_text) (ps := ["tree"]) (mg := mg) KX ?s fun S_tree_text => ?_
    (case s =>
      refine' Vt.stands KX G ?a ?l ?c ?k (fun _ _ _ _ _ _ us hl => match us, hl with | [_], _ => rfl)
      (case a => k_is); (case l => k_is); (case c => k_is); (case k => k_is))
    have S := Vt.LawDefs.mk S_law_source_of S_law_next S_law_one S_law_labels S_law_world S_law_tree S_law_below S_law_with S_law_paths S_law_put S_law_numbered S_law_place S_law_other S_law_alike_right S_law
    have S1 := Vt.CoreDefs.mk S_is_integer S_is_integer_within S_are_names S_are_ascending S_are_fields S_are_items S_is_mark S_inner_of_var S_inner_of_constant S_inner_of_fun S_inner_of_tuple S_inner_of_record S_inner_trees S_labels_of S_survey_if_tree S_survey_of S_check_tree S_numbered_anew S_renumbered S_mark_name S_needs_brackets S_name_of S_part_text S_record_text S_written_tree S_tree_text
    have z_int : mg "int" = none := PySem.W.mg_none_of KX G (by k_is)
    have z_len : mg "len" = none := PySem.W.mg_none_of KX G (by k_is)
    have z_list : mg "list" = none := PySem.W.mg_none_of KX G (by k_is)
    have z_tuple : mg "tuple" = none := PySem.W.mg_none_of KX G (by k_is)
    have z_str : mg "str" = none := PySem.W.mg_none_of KX G (by k_is)
    have z_bool : mg "bool" = none := PySem.W.mg_none_of KX G (by k_is)
    have z_set : mg "set" = none := PySem.W.mg_none_of KX G (by k_is)
    have z_isinstance : mg "isinstance" = none := PySem.W.mg_none_of KX G (by k_is)
    have z_all : mg "all" = none := PySem.W.mg_none_of KX G (by k_is)
    have z_sorted : mg "sorted" = none := PySem.W.mg_none_of KX G (by k_is)
    have z_range : mg "range" = none := PySem.W.mg_none_of KX G (by k_is)
    have z_enumerate : mg "enumerate" = none := PySem.W.mg_none_of KX G (by k_is)
    have z_zip : mg "zip" = none := PySem.W.mg_none_of KX G (by k_is)
    have z_reversed : mg "reversed" = none := PySem.W.mg_none_of KX G (by k_is)
    have z_repr : mg "repr" = none := PySem.W.mg_none_of KX G (by k_is)
    have z_dict : mg "dict" = none := PySem.W.mg_none_of KX G (by k_is)
    have z_divmod : mg "divmod" = none := PySem.W.mg_none_of KX G (by k_is)
    have Z : Vt.Blt mg := ⟨z_int, z_len, z_list, z_tuple, z_str, z_bool, z_set, z_isinstance, z_all, z_sorted, z_range, z_enumerate, z_zip, z_reversed, z_repr⟩
    refine' Vt.needN (x := "MOST_NODES") (i := 1000) (mg := mg) KX ?i fun c_MOST_NODES => ?_
    (case i => exact ⟨_, PySem.W.mg_of KX G (by k_is)⟩)
    refine' Vt.needN (x := "MOST_DEPTH") (i := 100) (mg := mg) KX ?i fun c_MOST_DEPTH => ?_
    (case i => exact ⟨_, PySem.W.mg_of KX G (by k_is)⟩)
    refine' Vt.needN (x := "MOST_LETTERS") (i := 8) (mg := mg) KX ?i fun c_MOST_LETTERS => ?_
    (case i => exact ⟨_, PySem.W.mg_of KX G (by k_is)⟩)
    refine' Vt.needN (x := "LEAST_ITEMS") (i := 2) (mg := mg) KX ?i fun c_LEAST_ITEMS => ?_
    (case i => exact ⟨_, PySem.W.mg_of KX G (by k_is)⟩)
    refine' Vt.needN (x := "MOST_ITEMS") (i := 6) (mg := mg) KX ?i fun c_MOST_ITEMS => ?_
    (case i => exact ⟨_, PySem.W.mg_of KX G (by k_is)⟩)
    refine' Vt.needN (x := "MOST_FIELDS") (i := 400) (mg := mg) KX ?i fun c_MOST_FIELDS => ?_
    (case i => exact ⟨_, PySem.W.mg_of KX G (by k_is)⟩)
    refine' Vt.needN (x := "GREATEST_MARK") (i := 999) (mg := mg) KX ?i fun c_GREATEST_MARK => ?_
    (case i => exact ⟨_, PySem.W.mg_of KX G (by k_is)⟩)
    have C0 : Vt.CstT mg := ⟨c_MOST_NODES, c_MOST_DEPTH, c_MOST_LETTERS, c_LEAST_ITEMS, c_MOST_ITEMS, c_MOST_FIELDS, c_GREATEST_MARK⟩
    refine' Vt.needS (x := "LETTERS") (z := "abcdefghijklmnopqrstuvwxyz") (mg := mg) KX ?i fun c_LETTERS => ?_
    (case i => exact ⟨_, PySem.W.mg_of KX G (by k_is)⟩)
    refine' Vt.need1 (w := w) (mg := mg) KX ?d fun D1 es1 n1 T1 => ?_
    (case d =>
      refine' ⟨_, _, _, Vt.TabY.mk (PySem.W.mg_of KX G ?a) ⟨?l, ?k, ?o⟩ (Vt.tab_of KX G ?t0 ?m0) (Vt.tab_of KX G ?t1 ?m1) (Vt.tab_of KX G ?t2 ?m2) (Vt.tab_of KX G ?t3 ?m3) (Vt.tab_of KX G ?t4 ?m4) (Vt.tab_of KX G ?t5 ?m5)⟩
      (case a => k_is); (case l => k_is); (case k => repeat (first | exact True.intro | refine ⟨⟨_, _, rfl, rfl⟩, ?_⟩)); (case o => rfl)
      (case t0 => k_is); (case m0 => k_is); (case t1 => k_is); (case m1 => k_is); (case t2 => k_is); (case m2 => k_is); (case t3 => k_is); (case m3 => k_is); (case t4 => k_is); (case m4 => k_is); (case t5 => k_is); (case m5 => k_is))
    refine' Vt.needV (mg := mg) KX ?v fun CS SV => ?_
    (case v =>
      refine' ⟨_, ⟨⟨⟨?pg, ?hd, ?po, ?sa⟩, Vt.noattr ?n1, Vt.noattr ?n2, Vt.noattr ?n3, Vt.noattr ?n4, Vt.noattr ?n5, PySem.W.mg_of KX G ?mg⟩, (Vt.standsI ?mk ?kc ?a0 ?i0 ?l0 ?c0 ?k0 (fun _ _ _ _ _ _ us hl => match us, hl with | [_], _ => rfl)), (Vt.standsM ?a1 ?i1 ?l1 ?c1 ?k1 (fun _ _ _ _ _ _ us hl => match us, hl with | [_, _], _ => rfl)), (Vt.standsM ?a2 ?i2 ?l2 ?c2 ?k2 (fun _ _ _ _ _ _ us hl => match us, hl with | [_, _], _ => rfl))⟩⟩
      (case mg => k_is); (case pg => first | k_is | rfl); (case hd => first | k_is | rfl); (case po => first | k_is | rfl); (case sa => k_is)
      (case n1 => k_is); (case n2 => k_is); (case n3 => k_is); (case n4 => k_is); (case n5 => k_is)
      (case mk => first | k_is | rfl); (case kc => first | k_is | rfl)
      (case a0 => k_is); (case i0 => first | k_is | rfl); (case l0 => k_is); (case c0 => first | k_is | rfl); (case k0 => first | k_is | rfl)
      (case a1 => k_is); (case i1 => first | k_is | rfl); (case l1 => k_is); (case c1 => first | k_is | rfl); (case k1 => first | k_is | rfl)
      (case a2 => k_is); (case i2 => first | k_is | rfl); (case l2 => k_is); (case c2 => first | k_is | rfl); (case k2 => first | k_is | rfl))
    obtain ⟨f, fd, FL, hm, _⟩ := S_law
    have e := hm.symm.trans hmg
    cases e
    refine ⟨fd, fun s u => ?_, fun base hK hG => Vt.law_ok S S1 SV Z z_dict z_divmod C0 c_LETTERS T1 FL⟩
    obtain ⟨_, _, _, _, _, _, _, _, _, rfl, _, _⟩ := FL.ex
    exact .of_eq rfl

