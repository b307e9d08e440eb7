import PyProof.Rows.All
import Wide.All
import OpenK.AllK
import Wide.FinOn
import HandS.Base
import HandS.Call
import HandS.List
import HandS.Comp
import HandS.Ends
import HandS.Dict
import HandS.Iter
import HandS.Text
import HandS.Flow
import HandS.ForMost
import HandS.IsInst
import HandS.Style
import HandS.Steps
import HandS.TupAny
import HandS.Wide
import HandS.Codes
import PyProof.ReprRoads
import PyProof.StrOps2
import HandS.TupMul
import PySem.Challenge.RW_vouchchains_k11_kinds_known
set_option Elab.async false
set_option linter.all false
set_option maxRecDepth 100000
set_option maxHeartbeats 4000000
namespace Dz
open PySem PySem.Spec PyProof.Rows L2

/-! ### data: what a value is, without addresses -/
inductive D where
  | non | bl (b : Bool) | int (i : Int) | str (x : Str) | tup (xs : List D) | lst (xs : List D) | dic (kvs : List (Key × D))
  | obj (C : Addr) (fs : List (Str × D)) | ty (n : String) | cls (C : Addr) | bag
/-- the written part, the bag's address (where there is one) -/
structure Ga where
  K : PySem.W.Frag
  b : Option Addr
def Ga.c (G : Ga) : List Addr := G.b.toList
def StT (K : PySem.W.Frag) (B : List Addr) (H : Hp) (a : Addr) (vs : List V) : Prop := (H a = some (.tup vs) ∧ a ∉ B) ∨ SqT K (fun _ => none) a vs
theorem StT.sq {K : PySem.W.Frag} {B : List Addr} {H : Hp} {a : Addr} {vs : List V} (h : StT K B H a vs) : SqT K H a vs := by
  rcases h with ⟨h, _⟩ | h
  · exact .inl (.inl h)
  · rcases h with (h | ⟨_, h⟩) | h
    · cases h
    · cases h
    · exact .inr h
mutual
/-- the value v is the datum d in H; nothing that d rests on stands in B -/
inductive Dt (G : Ga) (B : List Addr) (H : Hp) : V → D → Prop
  | non : Dt G B H .non .non
  | bl (b : Bool) : Dt G B H (.bl b) (.bl b)
  | int (i : Int) : Dt G B H (.int i) (.int i)
  | str (x : Str) : Dt G B H (.str x) (.str x)
  | tup {a : Addr} {vs : List V} {ds : List D} : StT G.K B H a vs → Dts G B H vs ds → Dt G B H (.ref a) (.tup ds)
  | lst {a : Addr} {vs : List V} {ds : List D} : H a = some (.lst vs) → a ∉ B → Dts G B H vs ds → Dt G B H (.ref a) (.lst ds)
  | dic {a : Addr} {kvs : List (Key × V)} {ds : List (Key × D)} : H a = some (.dK kvs) → a ∉ B → Dkv G B H kvs ds → Dt G B H (.ref a) (.dic ds)
  | obj {a C dx : Addr} {fs : List (Str × V)} {ds : List (Str × D)} : H a = some (.ins C dx fs) → a ∉ B → Dfs G B H fs ds → Dt G B H (.ref a) (.obj C ds)
  | ty (n : String) : Dt G B H (.ty n) (.ty n)
  | cls (C : Addr) : Dt G B H (.ref C) (.cls C)
  | bag {a : Addr} : G.b = some a → Dt G B H (.ref a) .bag
inductive Dts (G : Ga) (B : List Addr) (H : Hp) : List V → List D → Prop
  | nil : Dts G B H [] []
  | cons {v : V} {vs : List V} {d : D} {ds : List D} : Dt G B H v d → Dts G B H vs ds → Dts G B H (v :: vs) (d :: ds)
inductive Dkv (G : Ga) (B : List Addr) (H : Hp) : List (Key × V) → List (Key × D) → Prop
  | nil : Dkv G B H [] []
  | cons {k : Key} {v : V} {vs : List (Key × V)} {d : D} {ds : List (Key × D)} : Dt G B H v d → Dkv G B H vs ds → Dkv G B H ((k, v) :: vs) ((k, d) :: ds)
inductive Dfs (G : Ga) (B : List Addr) (H : Hp) : List (Str × V) → List (Str × D) → Prop
  | nil : Dfs G B H [] []
  | cons {k : Str} {v : V} {vs : List (Str × V)} {d : D} {ds : List (Str × D)} : Dt G B H v d → Dfs G B H vs ds → Dfs G B H ((k, v) :: vs) ((k, d) :: ds)
end
section
variable {G : Ga} {B B' : List Addr} {H H' : Hp}
mutual
theorem Dt.to (k : ∀ a o, a ∉ B → H a = some o → a ∉ B' ∧ H' a = some o) : ∀ {v : V} {d : D}, Dt G B H v d → Dt G B' H' v d
  | _, _, .non => .non
  | _, _, .bl b => .bl b
  | _, _, .int i => .int i
  | _, _, .str x => .str x
  | _, _, .tup h hs => by
    refine .tup ?_ (Dts.to k hs)
    rcases h with ⟨h, hn⟩ | h
    · exact .inl ⟨(k _ _ hn h).2, (k _ _ hn h).1⟩
    · exact .inr h
  | _, _, .lst h hn hs => .lst (k _ _ hn h).2 (k _ _ hn h).1 (Dts.to k hs)
  | _, _, .dic h hn hs => .dic (k _ _ hn h).2 (k _ _ hn h).1 (Dkv.to k hs)
  | _, _, .obj h hn hs => .obj (k _ _ hn h).2 (k _ _ hn h).1 (Dfs.to k hs)
  | _, _, .ty n => .ty n
  | _, _, .cls C => .cls C
  | _, _, .bag h => .bag h
theorem Dts.to (k : ∀ a o, a ∉ B → H a = some o → a ∉ B' ∧ H' a = some o) : ∀ {v : List V} {d : List D}, Dts G B H v d → Dts G B' H' v d
  | _, _, .nil => .nil
  | _, _, .cons h hs => .cons (Dt.to k h) (Dts.to k hs)
theorem Dkv.to (k : ∀ a o, a ∉ B → H a = some o → a ∉ B' ∧ H' a = some o) : ∀ {v : List (Key × V)} {d : List (Key × D)}, Dkv G B H v d → Dkv G B' H' v d
  | _, _, .nil => .nil
  | _, _, .cons h hs => .cons (Dt.to k h) (Dkv.to k hs)
theorem Dfs.to (k : ∀ a o, a ∉ B → H a = some o → a ∉ B' ∧ H' a = some o) : ∀ {v : List (Str × V)} {d : List (Str × D)}, Dfs G B H v d → Dfs G B' H' v d
  | _, _, .nil => .nil
  | _, _, .cons h hs => .cons (Dt.to k h) (Dfs.to k hs)
end
theorem Dts.length : ∀ {vs : List V} {ds : List D}, Dts G B H vs ds → vs.length = ds.length
  | _, _, .nil => rfl
  | _, _, .cons _ h => by rw [List.length_cons, List.length_cons, Dts.length h]
theorem Dts.get : ∀ {vs : List V} {ds : List D} {i : Nat} {d : D}, Dts G B H vs ds → ds[i]? = some d → ∃ v, vs[i]? = some v ∧ Dt G B H v d
  | _, _, _, _, .nil, e => by simp at e
  | _, _, 0, _, .cons h _, e => by simp at e; subst e; exact ⟨_, rfl, h⟩
  | _, _, i + 1, _, .cons _ h, e => by
    obtain ⟨v, e1, e2⟩ := Dts.get (i := i) h (by simpa using e)
    exact ⟨v, by simpa using e1, e2⟩
theorem Dts.getV : ∀ {vs : List V} {ds : List D} {i : Nat} {v : V}, Dts G B H vs ds → vs[i]? = some v → ∃ d, ds[i]? = some d ∧ Dt G B H v d
  | _, _, _, _, .nil, e => by simp at e
  | _, _, 0, _, .cons h _, e => by simp at e; subst e; exact ⟨_, rfl, h⟩
  | _, _, i + 1, _, .cons _ h, e => by
    obtain ⟨v, e1, e2⟩ := Dts.getV (i := i) h (by simpa using e)
    exact ⟨v, by simpa using e1, e2⟩
theorem Dts.append : ∀ {vs ws : List V} {ds es : List D}, Dts G B H vs ds → Dts G B H ws es → Dts G B H (vs ++ ws) (ds ++ es)
  | _, _, _, _, .nil, h => h
  | _, _, _, _, .cons a t, h => .cons a (Dts.append t h)
theorem Dts.take : ∀ {vs : List V} {ds : List D} (n : Nat), Dts G B H vs ds → Dts G B H (vs.take n) (ds.take n)
  | _, _, 0, _ => .nil
  | _, _, _ + 1, .nil => .nil
  | _, _, n + 1, .cons a t => .cons a (Dts.take n t)
theorem Dts.drop : ∀ {vs : List V} {ds : List D} (n : Nat), Dts G B H vs ds → Dts G B H (vs.drop n) (ds.drop n)
  | _, _, 0, h => h
  | _, _, _ + 1, .nil => .nil
  | _, _, n + 1, .cons _ t => Dts.drop n t
theorem Dts.ints : ∀ {vs : List V} {ns : List Int}, Dts G B H vs (ns.map D.int) → vs = ns.map V.int
  | [], [], _ => rfl
  | _ :: _, [], h => by cases h
  | [], _ :: _, h => by cases h
  | v :: vs, n :: ns, h => by
    cases h with
    | cons a t => cases a; rw [Dts.ints t]; rfl
theorem Dts.strs : ∀ {vs : List V} {ns : List Str}, Dts G B H vs (ns.map D.str) → vs = ns.map V.str
  | [], [], _ => rfl
  | _ :: _, [], h => by cases h
  | [], _ :: _, h => by cases h
  | v :: vs, n :: ns, h => by
    cases h with
    | cons a t => cases a; rw [Dts.strs t]; rfl
theorem Dts.bls : ∀ {vs : List V} {ns : List Bool}, Dts G B H vs (ns.map D.bl) → vs = ns.map V.bl
  | [], [], _ => rfl
  | _ :: _, [], h => by cases h
  | [], _ :: _, h => by cases h
  | v :: vs, n :: ns, h => by
    cases h with
    | cons a t => cases a; rw [Dts.bls t]; rfl
theorem Dts.ofInts : ∀ (ns : List Int), Dts G B H (ns.map V.int) (ns.map D.int)
  | [] => .nil
  | n :: ns => .cons (.int n) (Dts.ofInts ns)
theorem Dts.ofStrs : ∀ (ns : List Str), Dts G B H (ns.map V.str) (ns.map D.str)
  | [] => .nil
  | n :: ns => .cons (.str n) (Dts.ofStrs ns)
theorem Dts.rep {vs : List V} {ds : List D} (h : Dts G B H vs ds) : ∀ n, Dts G B H (List.replicate n vs).flatten (List.replicate n ds).flatten
  | 0 => .nil
  | n + 1 => by rw [List.replicate_succ, List.replicate_succ, List.flatten_cons, List.flatten_cons]; exact h.append (Dts.rep h n)
end

/-! ### how heaps go on -/
def Bx (C : List Addr) (H H' : Hp) : Prop := ∀ a o, a ∉ C → H a = some o → H' a = some o
theorem Bx.refl (C : List Addr) (H : Hp) : Bx C H H := fun _ _ _ h => h
theorem Bx.trans {C : List Addr} {H H1 H2 : Hp} (a : Bx C H H1) (b : Bx C H1 H2) : Bx C H H2 := fun x o n h => b x o n (a x o n h)
theorem Bx.new {C : List Addr} {H : Hp} {p : Addr} {o : HO} (h : H p = none) : Bx C H (upd H p o) := fun a u _ e => by
  rw [upd_ne (ne_of_none e h)]; exact e
theorem Bx.sub {C C' : List Addr} {H H' : Hp} (h : Bx C H H') (s : ∀ a ∈ C, a ∈ C') : Bx C' H H' := fun a o n e => h a o (fun z => n (s a z)) e
def Bag (B : List Addr) (H : Hp) (b : Addr) : Prop := ∃ (z t n : Int) (c : Addr) (cells : List Int), H b = some (.lst [.int z, .int t, .int n, .ref c]) ∧ H c = some (.lst (cells.map V.int)) ∧ c ∉ B ∧ 0 ≤ z ∧ 0 ≤ t ∧ 0 ≤ n ∧ ∀ x ∈ cells, 0 ≤ x
structure Ok (G : Ga) (B : List Addr) (H : Hp) : Prop where
  al : ∀ a ∈ B, H a ≠ none
  bg : ∀ b, G.b = some b → b ∈ B ∧ Bag B H b
section
variable {G : Ga} {B B' : List Addr} {H H' : Hp}
theorem Ok.sub (h : Ok G B H) : ∀ a ∈ G.c, a ∈ B := fun a ha => by
  unfold Ga.c at ha
  cases e : G.b with
  | none => rw [e] at ha; cases ha
  | some b =>
    rw [e] at ha
    have : a = b := by simpa using ha
    subst this
    exact (h.bg _ e).1
theorem Ok.fresh (h : Ok G B H) {p : Addr} (hp : H p = none) : p ∉ B := fun z => h.al p z hp
/-- a new object -/
theorem Ok.new (h : Ok G B H) {p : Addr} {o : HO} (hp : H p = none) : Ok G B (upd H p o) := by
  refine ⟨fun a ha => ?_, fun b e => ?_⟩
  · have : a ≠ p := fun z => h.al a ha (z ▸ hp)
    rw [upd_ne this]; exact h.al a ha
  · obtain ⟨hb, z, t, n, c, cells, h1, h2, r⟩ := h.bg b e
    exact ⟨hb, z, t, n, c, cells, by rw [upd_ne (ne_of_none h1 hp)]; exact h1, by rw [upd_ne (ne_of_none h2 hp)]; exact h2, r⟩
theorem Dt.bx {v : V} {d : D} (h : Dt G B H v d) (k : Bx B H H') : Dt G B H' v d := h.to fun a o n e => ⟨n, k a o n e⟩
theorem Dts.bx {v : List V} {d : List D} (h : Dts G B H v d) (k : Bx B H H') : Dts G B H' v d := h.to fun a o n e => ⟨n, k a o n e⟩
theorem Dt.less {v : V} {d : D} (h : Dt G B H v d) (k : ∀ a ∈ B', a ∈ B) : Dt G B' H v d := h.to fun a o n e => ⟨fun z => n (k a z), e⟩
theorem Dts.less {v : List V} {d : List D} (h : Dts G B H v d) (k : ∀ a ∈ B', a ∈ B) : Dts G B' H v d := h.to fun a o n e => ⟨fun z => n (k a z), e⟩
/-- a fresh place more among those that may change -/
theorem Dt.more {v : V} {d : D} {p : Addr} {o : HO} (h : Dt G B H v d) (hp : H p = none) : Dt G (p :: B) (upd H p o) v d := h.to fun a u n e => by
  have : a ≠ p := ne_of_none e hp
  exact ⟨fun z => (List.mem_cons.mp z).elim this n, by rw [upd_ne this]; exact e⟩
theorem Dts.more {v : List V} {d : List D} {p : Addr} {o : HO} (h : Dts G B H v d) (hp : H p = none) : Dts G (p :: B) (upd H p o) v d := h.to fun a u n e => by
  have : a ≠ p := ne_of_none e hp
  exact ⟨fun z => (List.mem_cons.mp z).elim this n, by rw [upd_ne this]; exact e⟩
theorem Ok.more (h : Ok G B H) {p : Addr} {o : HO} (hp : H p = none) : Ok G (p :: B) (upd H p o) := by
  refine ⟨fun a ha => ?_, fun b e => ?_⟩
  · by_cases z : a = p
    · subst z; rw [upd_same]; simp
    · rw [upd_ne z]; exact h.al a ((List.mem_cons.mp ha).resolve_left z)
  · obtain ⟨hb, z, t, n, c, cells, h1, h2, h3, r⟩ := h.bg b e
    refine ⟨List.mem_cons_of_mem _ hb, z, t, n, c, cells, by rw [upd_ne (ne_of_none h1 hp)]; exact h1, by rw [upd_ne (ne_of_none h2 hp)]; exact h2, fun z => ?_, r⟩
    rcases List.mem_cons.mp z with z | z
    · exact ne_of_none h2 hp z
    · exact h3 z
/-- what is ours is written -/
theorem Ok.put (h : Ok G B H) {p : Addr} {o : HO} (hp : p ∈ B) (hg : p ∉ G.c) : Ok G B (upd H p o) := by
  refine ⟨fun a ha => ?_, fun b e => ?_⟩
  · by_cases z : a = p
    · subst z; rw [upd_same]; simp
    · rw [upd_ne z]; exact h.al a ha
  · obtain ⟨hb, z, t, n, c, cells, h1, h2, h3, r⟩ := h.bg b e
    have e1 : b ≠ p := fun z => hg (by unfold Ga.c; rw [e, z]; simp)
    have e2 : c ≠ p := fun z => h3 (z ▸ hp)
    exact ⟨hb, z, t, n, c, cells, by rw [upd_ne e1]; exact h1, by rw [upd_ne e2]; exact h2, h3, r⟩
theorem Bx.put {p : Addr} {o : HO} (hp : p ∈ B) : Bx B H (upd H p o) := fun a u n e => by
  rw [upd_ne (fun z => n (by rw [z]; exact hp))]; exact e
theorem Ok.drop {p : Addr} (h : Ok G (p :: B) H) (hg : p ∉ G.c) : Ok G B H := ⟨fun a ha => h.al a (List.mem_cons_of_mem _ ha), fun b e => by
  obtain ⟨hb, z, t, n, c, cells, h1, h2, h3, r⟩ := h.bg b e
  refine ⟨(List.mem_cons.mp hb).resolve_left fun z => hg ?_, z, t, n, c, cells, h1, h2, fun z => h3 (List.mem_cons_of_mem _ z), r⟩
  unfold Ga.c; rw [e, ← z]; simp⟩
end

/-! ### slots -/
inductive Slot where
  | no | val (d : D) | own (ds : List D)
abbrev Rho := List Slot
structure Sta (G : Ga) (B : List Addr) (H : Hp) (σ : L2.St) (ρ : Rho) : Prop where
  ok : Ok G B H
  len : ρ.length = σ.length
  val : ∀ (i : Nat) (d : D), ρ[i]? = some (Slot.val d) → ∃ v, σ[i]? = some (some v) ∧ Dt G B H v d
  own : ∀ (i : Nat) (ds : List D), ρ[i]? = some (Slot.own ds) → ∃ a vs, σ[i]? = some (some (V.ref a)) ∧ H a = some (.lst vs) ∧ a ∈ B ∧ a ∉ G.c ∧ Dts G B H vs ds
  inj : ∀ (i j : Nat) (ds es : List D) (a : Addr), ρ[i]? = some (Slot.own ds) → ρ[j]? = some (Slot.own es) → σ[i]? = some (some (V.ref a)) → σ[j]? = some (some (V.ref a)) → i = j
section
variable {G : Ga} {B B' : List Addr} {H H' : Hp} {σ : L2.St} {ρ : Rho}
theorem Sta.bx (h : Sta G B H σ ρ) (k : Bx G.c H H') (ok : Ok G B H') : Sta G B H' σ ρ := by
  have k' : Bx B H H' := k.sub h.ok.sub
  refine ⟨ok, h.len, fun i d e => ?_, fun i ds e => ?_, h.inj⟩
  · obtain ⟨v, e1, e2⟩ := h.val i d e
    exact ⟨v, e1, e2.bx k'⟩
  · obtain ⟨a, vs, e1, e2, e3, e4, e5⟩ := h.own i ds e
    exact ⟨a, vs, e1, k a _ e4 e2, e3, e4, e5.bx k'⟩
theorem Sta.more (h : Sta G B H σ ρ) {p : Addr} {o : HO} (hp : H p = none) : Sta G (p :: B) (upd H p o) σ ρ := by
  refine ⟨h.ok.more hp, h.len, fun i d e => ?_, fun i ds e => ?_, h.inj⟩
  · obtain ⟨v, e1, e2⟩ := h.val i d e
    exact ⟨v, e1, e2.more hp⟩
  · obtain ⟨a, vs, e1, e2, e3, e4, e5⟩ := h.own i ds e
    exact ⟨a, vs, e1, by rw [upd_ne (ne_of_none e2 hp)]; exact e2, List.mem_cons_of_mem _ e3, e4, e5.more hp⟩
theorem Sta.set (h : Sta G B H σ ρ) {i : Nat} {v : V} {d : D} (hd : Dt G B H v d) : Sta G B H (σ.set i (some v)) (ρ.set i (.val d)) := by
  refine ⟨h.ok, by simp [h.len], fun j e he => ?_, fun j es he => ?_, fun j l ds es a e1 e2 e3 e4 => ?_⟩
  · rw [List.getElem?_set] at he ⊢
    split at he
    · rename_i z
      subst z
      split at he
      · rename_i hl
        cases he
        rw [if_pos rfl, if_pos (by rw [← h.len]; exact hl)]
        exact ⟨v, rfl, hd⟩
      · cases he
    · rename_i z
      rw [if_neg z]
      exact h.val j e he
  · rw [List.getElem?_set] at he ⊢
    split at he
    · split at he <;> cases he
    · rename_i z
      rw [if_neg z]
      exact h.own j es he
  · have a1 : i ≠ j := fun z => by
      subst z
      rw [List.getElem?_set] at e1
      rw [if_pos rfl] at e1
      split at e1 <;> cases e1
    have a2 : i ≠ l := fun z => by
      subst z
      rw [List.getElem?_set] at e2
      rw [if_pos rfl] at e2
      split at e2 <;> cases e2
    rw [List.getElem?_set_ne a1] at e1 e3
    rw [List.getElem?_set_ne a2] at e2 e4
    exact h.inj j l ds es a e1 e2 e3 e4
/-- a slot that is forgotten -/
theorem Sta.forget (h : Sta G B H σ ρ) {i : Nat} {x : Option V} : Sta G B H (σ.set i x) (ρ.set i .no) := by
  refine ⟨h.ok, by simp [h.len], fun j e he => ?_, fun j es he => ?_, fun j l ds es a e1 e2 e3 e4 => ?_⟩
  · rw [List.getElem?_set] at he ⊢
    split at he
    · split at he <;> cases he
    · rename_i z; rw [if_neg z]; exact h.val j e he
  · rw [List.getElem?_set] at he ⊢
    split at he
    · split at he <;> cases he
    · rename_i z; rw [if_neg z]; exact h.own j es he
  · have a1 : i ≠ j := fun z => by
      subst z; rw [List.getElem?_set, if_pos rfl] at e1; split at e1 <;> cases e1
    have a2 : i ≠ l := fun z => by
      subst z; rw [List.getElem?_set, if_pos rfl] at e2; split at e2 <;> cases e2
    rw [List.getElem?_set_ne a1] at e1 e3
    rw [List.getElem?_set_ne a2] at e2 e4
    exact h.inj j l ds es a e1 e2 e3 e4
def wipeR (ρ : Rho) : List Nat → Rho
  | [] => ρ
  | v :: vs => (wipeR ρ vs).set v .no
theorem Sta.wipe (h : Sta G B H σ ρ) : ∀ vs : List Nat, Sta G B H (wipe σ vs) (wipeR ρ vs)
  | [] => h
  | v :: vs => (Sta.wipe h vs).forget
end
end Dz

namespace Dz
open PySem PySem.Spec PyProof.Rows L2

theorem Ok.ex {G : Ga} {B : List Addr} {H H' : Hp} (h : Ok G B H) (k : Bx [] H H') : Ok G B H' := by
  have k' : ∀ a o, H a = some o → H' a = some o := fun a o e => k a o (by simp) e
  refine ⟨fun a ha => ?_, fun b e => ?_⟩
  · cases q : H a with
    | none => exact absurd q (h.al a ha)
    | some o => rw [k' a o q]; simp
  · obtain ⟨hb, z, t, n, c, cells, h1, h2, r⟩ := h.bg b e
    exact ⟨hb, z, t, n, c, cells, k' _ _ h1, k' _ _ h2, r⟩
theorem Bx.nil {C : List Addr} {H H' : Hp} (h : Bx [] H H') : Bx C H H' := h.sub (by simp)
def Tr (B : List Addr) (H : Hp) (B' : List Addr) (H' : Hp) : Prop := ∀ a o, a ∉ B → H a = some o → a ∉ B' ∧ H' a = some o
theorem Tr.bx {B : List Addr} {H H1 B' H'} (h : Tr B H1 B' H') (k : Bx B H H1) : Tr B H B' H' := fun a o n e => h a o n (k a o n e)

/-! ### what evaluates to what -/
abbrev MD := (D → Prop) → Prop
abbrev ME := Rho → MD
abbrev MT := Rho → (Bool → Prop) → Prop
abbrev MA := Rho → (List D → Prop) → Prop
def EvD (G : Ga) (te : TE) (m : ME) : Prop := ∀ (B : List Addr) (H : Hp) (σ : L2.St) (ρ : Rho), Sta G B H σ ρ → ∀ (Qd : D → Prop) (Q : VK),
  (∀ d v H2, Qd d → Bx G.c H H2 → Ok G B H2 → Dt G B H2 v d → Q v H2) → m ρ Qd → te σ H Q
def EvT (G : Ga) (tt : TT) (m : MT) : Prop := ∀ (B : List Addr) (H : Hp) (σ : L2.St) (ρ : Rho), Sta G B H σ ρ → ∀ (Qd : Bool → Prop) (Q : Bool → Hp → Prop),
  (∀ d H2, Qd d → Bx G.c H H2 → Ok G B H2 → Q d H2) → m ρ Qd → tt σ H Q
def EvA (G : Ga) (ta : TA) (m : MA) : Prop := ∀ (B : List Addr) (H : Hp) (σ : L2.St) (ρ : Rho), Sta G B H σ ρ → ∀ (Qd : List D → Prop) (Q : List V → Hp → Prop),
  (∀ d v H2, Qd d → Bx G.c H H2 → Ok G B H2 → Dts G B H2 v d → Q v H2) → m ρ Qd → ta σ H Q
/-- an operation on data -/
def OpD (G : Ga) (r : R2) (f : D → D → MD) : Prop := ∀ (B : List Addr) (H : Hp) (x y : V) (dx dy : D), Ok G B H → Dt G B H x dx → Dt G B H y dy → ∀ (Qd : D → Prop) (Q : VK),
  (∀ d v H2, Qd d → Bx [] H H2 → Dt G B H2 v d → Q v H2) → f dx dy Qd → r x y H Q
def UnD (G : Ga) (r : V → Hp → VK → Prop) (f : D → MD) : Prop := ∀ (B : List Addr) (H : Hp) (x : V) (dx : D), Ok G B H → Dt G B H x dx → ∀ (Qd : D → Prop) (Q : VK),
  (∀ d v H2, Qd d → Bx [] H H2 → Dt G B H2 v d → Q v H2) → f dx Qd → r x H Q
def CallD (G : Ga) (r : List V → Hp → VK → Prop) (f : List D → MD) : Prop := ∀ (B : List Addr) (H : Hp) (x : List V) (dx : List D), Ok G B H → Dts G B H x dx → ∀ (Qd : D → Prop) (Q : VK),
  (∀ d v H2, Qd d → Bx [] H H2 → Dt G B H2 v d → Q v H2) → f dx Qd → r x H Q
def SlD (G : Ga) (r : V → Option Int → Option Int → Hp → VK → Prop) (f : D → Option Int → Option Int → MD) : Prop := ∀ (B : List Addr) (H : Hp) (x : V) (dx : D) (lo hi : Option Int), Ok G B H → Dt G B H x dx → ∀ (Qd : D → Prop) (Q : VK),
  (∀ d v H2, Qd d → Bx [] H H2 → Dt G B H2 v d → Q v H2) → f dx lo hi Qd → r x lo hi H Q

/-! ### the mirrors -/
def mVar (i : Nat) : ME := fun ρ Q => match ρ[i]? with
  | some (.val d) => Q d
  | _ => False
def mC (d : D) : ME := fun _ Q => Q d
def mBin (f : D → D → MD) (ma mb : ME) : ME := fun ρ Q => ma ρ fun x => mb ρ fun y => f x y Q
def mUn (f : D → MD) (ma : ME) : ME := fun ρ Q => ma ρ fun x => f x Q
def asBl (d : D) (Q : Bool → Prop) : Prop := match d with
  | .bl b => Q b
  | _ => False
def mTest (m : ME) : MT := fun ρ Q => m ρ fun d => asBl d Q
def tru (d : D) (Q : Bool → Prop) : Prop := match d with
  | .non => Q false
  | .bl b => Q b
  | .int i => Q (i != 0)
  | .str x => x.length ≤ sizeLine ∧ Q ((x.length : Int) != 0)
  | .lst xs => Q (!xs.isEmpty)
  | .tup xs => Q (!xs.isEmpty)
  | .dic xs => Q (!xs.isEmpty)
  | _ => False
def mTru (m : ME) : MT := fun ρ Q => m ρ fun d => tru d Q
def mAnd (s t : MT) : MT := fun ρ Q => s ρ fun b => if b = true then t ρ Q else Q false
def mOr (s t : MT) : MT := fun ρ Q => s ρ fun b => if b = true then Q true else t ρ Q
def mNot (s : MT) : MT := fun ρ Q => s ρ fun b => Q (!b)
def mAndV (s t : ME) : ME := fun ρ Q => s ρ fun d => asBl d fun b => if b = true then t ρ Q else Q (.bl false)
def mOrV (s t : ME) : ME := fun ρ Q => s ρ fun d => asBl d fun b => if b = true then Q (.bl true) else t ρ Q
def mNotV (s : ME) : ME := fun ρ Q => s ρ fun d => asBl d fun b => Q (.bl (!b))
def mOrT (s t : ME) : ME := fun ρ Q => s ρ fun d => tru d fun b => if b = true then Q d else t ρ Q
def mAndT (s t : ME) : ME := fun ρ Q => s ρ fun d => tru d fun b => if b = true then t ρ Q else Q d
def mIf (c : MT) (s t : ME) : ME := fun ρ Q => c ρ fun b => if b = true then s ρ Q else t ρ Q
def mNil : MA := fun _ Q => Q []
def mCons (s : ME) (t : MA) : MA := fun ρ Q => s ρ fun d => t ρ fun ds => Q (d :: ds)
def mTup (m : MA) : ME := fun ρ Q => m ρ fun ds => ds.length ≤ sizeLine ∧ Q (.tup ds)
def mLst (m : MA) : ME := fun ρ Q => m ρ fun ds => ds.length ≤ sizeLine ∧ Q (.lst ds)
def mCall (f : List D → MD) (m : MA) : ME := fun ρ Q => m ρ fun ds => f ds Q
def mFn (n : Nat) (f : List D → MD) (es : List D) (m : MA) : ME := fun ρ Q => m ρ fun ds => (ds ++ es).length = n ∧ f (ds ++ es) Q
def mChain (f g : D → D → MD) (ma mb mc : ME) : ME := fun ρ Q => ma ρ fun x => mb ρ fun y => f x y fun z => asBl z fun k => if k = true then mc ρ fun w => g y w Q else Q (.bl false)

section
variable {G : Ga} {ta tb tc : TE} {ma mb mc : ME} {r r' : R2} {f g : D → D → MD} {tA : TA} {mA : MA} {t u : TT} {s s' : MT}
theorem evd_var {i : Nat} : EvD G (tVar i) (mVar i) := by
  intro B H σ ρ hS Qd Q hQ hm
  unfold mVar at hm
  split at hm
  · rename_i d e
    obtain ⟨v, e1, e2⟩ := hS.val i d e
    exact ⟨v, e1, hQ d v H hm (Bx.refl _ _) hS.ok e2⟩
  · exact hm.elim
theorem evd_c {v : V} {d : D} (h : ∀ B H, Dt G B H v d) : EvD G (tC v) (mC d) := fun B H σ ρ hS Qd Q hQ hm => hQ d v H hm (Bx.refl _ _) hS.ok (h B H)
theorem evd_int {i : Int} : EvD G (tC (.int i)) (mC (.int i)) := evd_c fun _ _ => .int i
theorem evd_bl {i : Bool} : EvD G (tC (.bl i)) (mC (.bl i)) := evd_c fun _ _ => .bl i
theorem evd_str {i : Str} : EvD G (tC (.str i)) (mC (.str i)) := evd_c fun _ _ => .str i
theorem evd_non : EvD G (tC .non) (mC .non) := evd_c fun _ _ => .non
theorem evd_ty {n : String} : EvD G (tC (.ty n)) (mC (.ty n)) := evd_c fun _ _ => .ty n
theorem evd_cls {C : Addr} : EvD G (tC (.ref C)) (mC (.cls C)) := evd_c fun _ _ => .cls C
theorem evd_op (ho : OpD G r f) (ha : EvD G ta ma) (hb : EvD G tb mb) : EvD G (tOp r ta tb) (mBin f ma mb) := by
  intro B H σ ρ hS Qd Q hQ hm
  refine ha B H σ ρ hS (fun dx => mb ρ fun dy => f dx dy Qd) _ (fun dx x H1 hq b1 ok1 hx => ?_) hm
  refine hb B H1 σ ρ (hS.bx b1 ok1) (fun dy => f dx dy Qd) _ (fun dy y H2 hq2 b2 ok2 hy => ?_) hq
  exact ho B H2 x y dx dy ok2 (hx.bx (b2.sub ok1.sub)) hy Qd Q (fun d v H3 q e3 hd => hQ d v H3 q ((b1.trans b2).trans e3.nil) (ok2.ex e3) hd) hq2
theorem evd_un {r : V → Hp → VK → Prop} {f : D → MD} (ho : UnD G r f) (ha : EvD G ta ma) : EvD G (tUn r ta) (mUn f ma) := by
  intro B H σ ρ hS Qd Q hQ hm
  refine ha B H σ ρ hS (fun dx => f dx Qd) _ (fun dx x H1 hq b1 ok1 hx => ?_) hm
  exact ho B H1 x dx ok1 hx Qd Q (fun d v H3 q e3 hd => hQ d v H3 q (b1.trans e3.nil) (ok1.ex e3) hd) hq
theorem asBl_inv {v : V} {d : D} {B H} {Qd : Bool → Prop} (h : Dt G B H v d) (q : asBl d Qd) : ∃ b, v = .bl b ∧ d = .bl b ∧ Qd b := by
  cases h with
  | bl b => exact ⟨b, rfl, rfl, q⟩
  | _ => exact (show False from q).elim
theorem evt_test (h : EvD G ta ma) : EvT G (tTest ta) (mTest ma) := by
  intro B H σ ρ hS Qd Q hQ hm
  refine h B H σ ρ hS (fun d => asBl d Qd) _ (fun d v H2 q b1 ok1 hd => ?_) hm
  obtain ⟨b, rfl, rfl, q⟩ := asBl_inv hd q
  exact ⟨b, rfl, hQ b H2 q b1 ok1⟩
theorem evt_tB (h : EvD G ta ma) : EvT G (tB ta) (mTest ma) := by
  intro B H σ ρ hS Qd Q hQ hm
  refine h B H σ ρ hS (fun d => asBl d Qd) _ (fun d v H2 q b1 ok1 hd => ?_) hm
  obtain ⟨b, rfl, rfl, q⟩ := asBl_inv hd q
  exact ⟨b, rfl, hQ b H2 q b1 ok1⟩
theorem Dkv.isEmpty {B H} : ∀ {a : List (Key × V)} {b : List (Key × D)}, Dkv G B H a b → a.isEmpty = b.isEmpty
  | _, _, .nil => rfl
  | _, _, .cons _ _ => rfl
theorem Dts.isEmpty {B H} : ∀ {a : List V} {b : List D}, Dts G B H a b → a.isEmpty = b.isEmpty
  | _, _, .nil => rfl
  | _, _, .cons _ _ => rfl
theorem tru_inv {v : V} {d : D} {B H} {Qd : Bool → Prop} (h : Dt G B H v d) (q : tru d Qd) : ∃ b, TruV G.K v H b ∧ Qd b := by
  cases h with
  | non => exact ⟨false, rfl, q⟩
  | bl b => exact ⟨b, rfl, q⟩
  | int i => exact ⟨_, rfl, q⟩
  | str x => exact ⟨_, ⟨q.1, rfl⟩, q.2⟩
  | tup h1 h2 => exact ⟨_, .inr (.inl ⟨_, h1.sq, by rw [h2.isEmpty]⟩), q⟩
  | lst h1 _ h2 => exact ⟨_, .inl ⟨_, .inl (.inl h1), by rw [h2.isEmpty]⟩, q⟩
  | dic h1 _ h2 => exact ⟨_, .inr (.inr ⟨_, h1, by rw [h2.isEmpty]⟩), q⟩
  | _ => exact (show False from q).elim
theorem evt_truth (h : EvD G ta ma) : EvT G (fun σ H Q => ta σ H fun x H' => ∃ k, TruV G.K x H' k ∧ Q k H') (mTru ma) := by
  intro B H σ ρ hS Qd Q hQ hm
  refine h B H σ ρ hS (fun d => tru d Qd) _ (fun d v H2 q b1 ok1 hd => ?_) hm
  obtain ⟨b, hb, q⟩ := tru_inv hd q
  exact ⟨b, hb, hQ b H2 q b1 ok1⟩
theorem evt_and (h1 : EvT G t s) (h2 : EvT G u s') : EvT G (tAnd t u) (mAnd s s') := by
  intro B H σ ρ hS Qd Q hQ hm
  refine h1 B H σ ρ hS (fun b => if b = true then s' ρ Qd else Qd false) _ (fun b H1 q b1 ok1 => ?_) hm
  cases b with
  | true => exact h2 B H1 σ ρ (hS.bx b1 ok1) Qd Q (fun d H2 q b2 ok2 => hQ d H2 q (b1.trans b2) ok2) q
  | false => exact hQ false H1 q b1 ok1
theorem evt_or (h1 : EvT G t s) (h2 : EvT G u s') : EvT G (tOr t u) (mOr s s') := by
  intro B H σ ρ hS Qd Q hQ hm
  refine h1 B H σ ρ hS (fun b => if b = true then Qd true else s' ρ Qd) _ (fun b H1 q b1 ok1 => ?_) hm
  cases b with
  | false => exact h2 B H1 σ ρ (hS.bx b1 ok1) Qd Q (fun d H2 q b2 ok2 => hQ d H2 q (b1.trans b2) ok2) q
  | true => exact hQ true H1 q b1 ok1
theorem evt_not (h1 : EvT G t s) : EvT G (tNot t) (mNot s) := fun B H σ ρ hS Qd Q hQ hm => h1 B H σ ρ hS (fun b => Qd (!b)) _ (fun b H1 q b1 ok1 => hQ (!b) H1 q b1 ok1) hm
theorem evd_andV (h1 : EvD G ta ma) (h2 : EvD G tb mb) : EvD G (tAndV ta tb) (mAndV ma mb) := by
  intro B H σ ρ hS Qd Q hQ hm
  refine h1 B H σ ρ hS (fun d => asBl d fun b => if b = true then mb ρ Qd else Qd (.bl false)) _ (fun d v H1 q b1 ok1 hd => ?_) hm
  obtain ⟨b, rfl, rfl, q⟩ := asBl_inv hd q
  refine ⟨b, rfl, ?_⟩
  cases b with
  | true => exact h2 B H1 σ ρ (hS.bx b1 ok1) Qd Q (fun d v H2 q b2 ok2 hd => hQ d v H2 q (b1.trans b2) ok2 hd) q
  | false => exact hQ _ _ H1 q b1 ok1 (.bl false)
theorem evd_orV (h1 : EvD G ta ma) (h2 : EvD G tb mb) : EvD G (tOrV ta tb) (mOrV ma mb) := by
  intro B H σ ρ hS Qd Q hQ hm
  refine h1 B H σ ρ hS (fun d => asBl d fun b => if b = true then Qd (.bl true) else mb ρ Qd) _ (fun d v H1 q b1 ok1 hd => ?_) hm
  obtain ⟨b, rfl, rfl, q⟩ := asBl_inv hd q
  refine ⟨b, rfl, ?_⟩
  cases b with
  | false => exact h2 B H1 σ ρ (hS.bx b1 ok1) Qd Q (fun d v H2 q b2 ok2 hd => hQ d v H2 q (b1.trans b2) ok2 hd) q
  | true => exact hQ _ _ H1 q b1 ok1 (.bl true)
theorem evd_notV (h1 : EvD G ta ma) : EvD G (tNotV ta) (mNotV ma) := by
  intro B H σ ρ hS Qd Q hQ hm
  refine h1 B H σ ρ hS (fun d => asBl d fun b => Qd (.bl (!b))) _ (fun d v H1 q b1 ok1 hd => ?_) hm
  obtain ⟨b, rfl, rfl, q⟩ := asBl_inv hd q
  exact ⟨b, rfl, hQ _ _ H1 q b1 ok1 (.bl _)⟩
theorem evd_orT (h1 : EvD G ta ma) (h2 : EvD G tb mb) : EvD G (tOrT G.K ta tb) (mOrT ma mb) := by
  intro B H σ ρ hS Qd Q hQ hm
  refine h1 B H σ ρ hS (fun d => tru d fun b => if b = true then Qd d else mb ρ Qd) _ (fun d v H1 q b1 ok1 hd => ?_) hm
  obtain ⟨b, hb, q⟩ := tru_inv hd q
  refine ⟨b, hb, ?_⟩
  cases b with
  | false => exact h2 B H1 σ ρ (hS.bx b1 ok1) Qd Q (fun d v H2 q b2 ok2 hd => hQ d v H2 q (b1.trans b2) ok2 hd) q
  | true => exact hQ _ _ H1 q b1 ok1 hd
theorem evd_andT (h1 : EvD G ta ma) (h2 : EvD G tb mb) : EvD G (tAndT G.K ta tb) (mAndT ma mb) := by
  intro B H σ ρ hS Qd Q hQ hm
  refine h1 B H σ ρ hS (fun d => tru d fun b => if b = true then mb ρ Qd else Qd d) _ (fun d v H1 q b1 ok1 hd => ?_) hm
  obtain ⟨b, hb, q⟩ := tru_inv hd q
  refine ⟨b, hb, ?_⟩
  cases b with
  | true => exact h2 B H1 σ ρ (hS.bx b1 ok1) Qd Q (fun d v H2 q b2 ok2 hd => hQ d v H2 q (b1.trans b2) ok2 hd) q
  | false => exact hQ _ _ H1 q b1 ok1 hd
theorem evd_if (hc : EvT G t s) (h1 : EvD G ta ma) (h2 : EvD G tb mb) : EvD G (tIf t ta tb) (mIf s ma mb) := by
  intro B H σ ρ hS Qd Q hQ hm
  refine hc B H σ ρ hS (fun b => if b = true then ma ρ Qd else mb ρ Qd) _ (fun b H1 q b1 ok1 => ?_) hm
  cases b with
  | true => exact h1 B H1 σ ρ (hS.bx b1 ok1) Qd Q (fun d v H2 q b2 ok2 hd => hQ d v H2 q (b1.trans b2) ok2 hd) q
  | false => exact h2 B H1 σ ρ (hS.bx b1 ok1) Qd Q (fun d v H2 q b2 ok2 hd => hQ d v H2 q (b1.trans b2) ok2 hd) q
theorem eva_nil : EvA G tNil mNil := fun B H σ ρ hS Qd Q hQ hm => hQ [] [] H hm (Bx.refl _ _) hS.ok .nil
theorem eva_cons (ha : EvD G ta ma) (hr : EvA G tA mA) : EvA G (tCons ta tA) (mCons ma mA) := by
  intro B H σ ρ hS Qd Q hQ hm
  refine ha B H σ ρ hS (fun d => mA ρ fun ds => Qd (d :: ds)) _ (fun d v H1 q b1 ok1 hd => ?_) hm
  refine hr B H1 σ ρ (hS.bx b1 ok1) (fun ds => Qd (d :: ds)) _ (fun ds vs H2 q b2 ok2 hds => ?_) q
  exact hQ (d :: ds) (v :: vs) H2 q (b1.trans b2) ok2 (.cons (hd.bx (b2.sub ok1.sub)) hds)
theorem dt_newL {B : List Addr} {H : Hp} {p : Addr} {vs : List V} {ds : List D} (ok : Ok G B H) (hp : H p = none) (h : Dts G B H vs ds) : Dt G B (upd H p (.lst vs)) (.ref p) (.lst ds) :=
  .lst upd_same (ok.fresh hp) (h.bx (Bx.new hp))
theorem dt_newT {B : List Addr} {H : Hp} {p : Addr} {vs : List V} {ds : List D} (ok : Ok G B H) (hp : H p = none) (h : Dts G B H vs ds) : Dt G B (upd H p (.tup vs)) (.ref p) (.tup ds) :=
  .tup (.inl ⟨upd_same, ok.fresh hp⟩) (h.bx (Bx.new hp))
theorem evd_tup (ha : EvA G tA mA) : EvD G (tTup tA) (mTup mA) := by
  intro B H σ ρ hS Qd Q hQ hm
  refine ha B H σ ρ hS (fun ds => ds.length ≤ sizeLine ∧ Qd (.tup ds)) _ (fun ds vs H1 q b1 ok1 hd => ?_) hm
  exact ⟨by rw [hd.length]; exact q.1, fun p hp => hQ _ _ _ q.2 (b1.trans (Bx.new hp)) (ok1.new hp) (dt_newT ok1 hp hd)⟩
theorem evd_lst (ha : EvA G tA mA) : EvD G (tLst tA) (mLst mA) := by
  intro B H σ ρ hS Qd Q hQ hm
  refine ha B H σ ρ hS (fun ds => ds.length ≤ sizeLine ∧ Qd (.lst ds)) _ (fun ds vs H1 q b1 ok1 hd => ?_) hm
  exact ⟨by rw [hd.length]; exact q.1, fun p hp => hQ _ _ _ q.2 (b1.trans (Bx.new hp)) (ok1.new hp) (dt_newL ok1 hp hd)⟩
theorem evd_cb {r : List V → Hp → VK → Prop} {f : List D → MD} (hf : CallD G r f) (ha : EvA G tA mA) : EvD G (tCB r tA) (mCall f mA) := by
  intro B H σ ρ hS Qd Q hQ hm
  refine ha B H σ ρ hS (fun ds => f ds Qd) _ (fun ds vs H1 q b1 ok1 hd => ?_) hm
  exact hf B H1 vs ds ok1 hd Qd Q (fun d v H2 q e2 hd => hQ d v H2 q (b1.trans e2.nil) (ok1.ex e2) hd) q
theorem evd_chain (h1 : OpD G r f) (h2 : OpD G r' g) (ha : EvD G ta ma) (hb : EvD G tb mb) (hc : EvD G tc mc) : EvD G (tChain r r' ta tb tc) (mChain f g ma mb mc) := by
  intro B H σ ρ hS Qd Q hQ hm
  refine ha B H σ ρ hS (fun x => mb ρ fun y => f x y fun z => asBl z fun k => if k = true then mc ρ fun w => g y w Qd else Qd (.bl false)) _ (fun dx x H1 q b1 ok1 hx => ?_) hm
  refine hb B H1 σ ρ (hS.bx b1 ok1) (fun y => f dx y fun z => asBl z fun k => if k = true then mc ρ fun w => g y w Qd else Qd (.bl false)) _ (fun dy y H2 q b2 ok2 hy => ?_) q
  refine h1 B H2 x y dx dy ok2 (hx.bx (b2.sub ok1.sub)) hy (fun z => asBl z fun k => if k = true then mc ρ fun w => g dy w Qd else Qd (.bl false)) _ (fun dz z H3 q e3 hz => ?_) q
  obtain ⟨k, rfl, rfl, q⟩ := asBl_inv hz q
  refine ⟨k, rfl, ?_⟩
  have ok3 := ok2.ex e3
  have b3 : Bx G.c H H3 := (b1.trans b2).trans e3.nil
  cases k with
  | false => exact hQ _ _ H3 q b3 ok3 (.bl false)
  | true =>
    refine hc B H3 σ ρ (hS.bx b3 ok3) (fun w => g dy w Qd) _ (fun dw w H4 q b4 ok4 hw => ?_) q
    exact h2 B H4 y w dy dw ok4 ((hy.bx e3.nil).bx (b4.sub ok3.sub)) hw Qd Q (fun d v H5 q e5 hd => hQ d v H5 q ((b3.trans b4).trans e5.nil) (ok4.ex e5) hd) q

/-! ### a def's promise -/
def spM (K : PySem.W.Frag) (n : Nat) (f : List D → MD) : Sp := fun vs H Q _ => ∃ (b : Option Addr) (B : List Addr) (ds : List D) (Qd : D → Prop), Ok ⟨K, b⟩ B H ∧ Dts ⟨K, b⟩ B H vs ds ∧ ds.length = n ∧ f ds Qd ∧
  ∀ d v H2, Qd d → Bx (Ga.c ⟨K, b⟩) H H2 → Ok ⟨K, b⟩ B H2 → Dt ⟨K, b⟩ B H2 v d → Q v H2
theorem spM_len {K : PySem.W.Frag} {n : Nat} {f : List D → MD} {vs : List V} {H : Hp} {Q : VK} {E : XK} (h : spM K n f vs H Q E) : vs.length = n := by
  obtain ⟨b, B, ds, Qd, _, hd, hl, _⟩ := h
  rw [hd.length, hl]
theorem evd_call {n : Nat} {F : List D → MD} {dvs : List V} {es : List D} {E : XK} (hdv : ∀ B H, Dts G B H dvs es) (ha : EvA G tA mA) : EvD G (tCall (spM G.K n F) dvs E tA) (mFn n F es mA) := by
  intro B H σ ρ hS Qd Q hQ hm
  refine ha B H σ ρ hS (fun ds => (ds ++ es).length = n ∧ F (ds ++ es) Qd) _ (fun ds vs H1 q b1 ok1 hd => ?_) hm
  exact ⟨G.b, B, ds ++ es, Qd, ok1, hd.append (hdv B H1), q.1, q.2, fun d v H2 q b2 ok2 hd => hQ d v H2 q (b1.trans b2) ok2 hd⟩

/-! ### slices -/
def MO := Rho → (Option Int → Prop) → Prop
def EvO (G : Ga) (to : TO) (m : MO) : Prop := ∀ (B : List Addr) (H : Hp) (σ : L2.St) (ρ : Rho), Sta G B H σ ρ → ∀ (Qd : Option Int → Prop) (Q : Option Int → Hp → Prop),
  (∀ d H2, Qd d → Bx G.c H H2 → Ok G B H2 → Q d H2) → m ρ Qd → to σ H Q
def mNoPart : MO := fun _ Q => Q none
def asInt (d : D) (Q : Int → Prop) : Prop := match d with
  | .int i => Q i
  | _ => False
def mPart (m : ME) : MO := fun ρ Q => m ρ fun d => asInt d fun i => Q (some i)
theorem asInt_inv {v : V} {d : D} {B H} {Qd : Int → Prop} (h : Dt G B H v d) (q : asInt d Qd) : ∃ b, v = .int b ∧ d = .int b ∧ Qd b := by
  cases h with
  | int b => exact ⟨b, rfl, rfl, q⟩
  | _ => exact (show False from q).elim
theorem evo_none : EvO G tNoPart mNoPart := fun B H σ ρ hS Qd Q hQ hm => hQ none H hm (Bx.refl _ _) hS.ok
theorem evo_some (h : EvD G ta ma) : EvO G (tPart ta) (mPart ma) := by
  intro B H σ ρ hS Qd Q hQ hm
  refine h B H σ ρ hS (fun d => asInt d fun i => Qd (some i)) _ (fun d v H1 q b1 ok1 hd => ?_) hm
  obtain ⟨i, rfl, rfl, q⟩ := asInt_inv hd q
  exact ⟨i, rfl, hQ _ H1 q b1 ok1⟩
def mSl (f : D → Option Int → Option Int → MD) (m : ME) (l h : MO) : ME := fun ρ Q => m ρ fun d => l ρ fun i => h ρ fun j => f d i j Q
theorem evd_sl {r : V → Option Int → Option Int → Hp → VK → Prop} {f : D → Option Int → Option Int → MD} {tl th : TO} {l h : MO} (hr : SlD G r f) (ha : EvD G ta ma) (hl : EvO G tl l) (hh : EvO G th h) : EvD G (tSl r ta tl th) (mSl f ma l h) := by
  intro B H σ ρ hS Qd Q hQ hm
  refine ha B H σ ρ hS (fun d => l ρ fun i => h ρ fun j => f d i j Qd) _ (fun d v H1 q b1 ok1 hd => ?_) hm
  refine hl B H1 σ ρ (hS.bx b1 ok1) (fun i => h ρ fun j => f d i j Qd) _ (fun i H2 q b2 ok2 => ?_) q
  refine hh B H2 σ ρ (hS.bx (b1.trans b2) ok2) (fun j => f d i j Qd) _ (fun j H3 q b3 ok3 => ?_) q
  exact hr B H3 v d i j ok3 (hd.bx ((b2.trans b3).sub ok1.sub)) Qd Q (fun d' v' H4 q e4 hd' => hQ d' v' H4 q (((b1.trans b2).trans b3).trans e4.nil) (ok3.ex e4) hd') q

/-! ### methods of texts -/
def asStr (d : D) (Q : Str → Prop) : Prop := match d with
  | .str i => Q i
  | _ => False
theorem asStr_inv {v : V} {d : D} {B H} {Qd : Str → Prop} (h : Dt G B H v d) (q : asStr d Qd) : ∃ b, v = .str b ∧ d = .str b ∧ Qd b := by
  cases h with
  | str b => exact ⟨b, rfl, rfl, q⟩
  | _ => exact (show False from q).elim
def mM1 (f : D → D → MD) (ma mb : ME) : ME := fun ρ Q => ma ρ fun x => asStr x fun z => mb ρ fun y => f (.str z) y Q
def mM0 (f : D → MD) (ma : ME) : ME := fun ρ Q => ma ρ fun x => asStr x fun z => f (.str z) Q
theorem evd_m1 {r : V → List V → Hp → VK → Prop} {f : D → D → MD} (hf : OpD G (fun x y H Q => r x [y] H Q) f) (ha : EvD G ta ma) (hb : EvD G tb mb) : EvD G (tM1 r ta tb) (mM1 f ma mb) := by
  intro B H σ ρ hS Qd Q hQ hm
  refine ha B H σ ρ hS (fun x => asStr x fun z => mb ρ fun y => f (.str z) y Qd) _ (fun d v H1 q b1 ok1 hd => ?_) hm
  obtain ⟨z, rfl, rfl, q⟩ := asStr_inv hd q
  refine ⟨⟨z, rfl⟩, ?_⟩
  refine hb B H1 σ ρ (hS.bx b1 ok1) (fun y => f (.str z) y Qd) _ (fun dy y H2 q b2 ok2 hy => ?_) q
  exact hf B H2 (.str z) y (.str z) dy ok2 (.str z) hy Qd Q (fun d v H3 q e3 hd => hQ d v H3 q ((b1.trans b2).trans e3.nil) (ok2.ex e3) hd) q
theorem evd_m0 {r : V → List V → Hp → VK → Prop} {f : D → MD} (hf : UnD G (fun x H Q => r x [] H Q) f) (ha : EvD G ta ma) : EvD G (tM0 r ta) (mM0 f ma) := by
  intro B H σ ρ hS Qd Q hQ hm
  refine ha B H σ ρ hS (fun x => asStr x fun z => f (.str z) Qd) _ (fun d v H1 q b1 ok1 hd => ?_) hm
  obtain ⟨z, rfl, rfl, q⟩ := asStr_inv hd q
  refine ⟨⟨z, rfl⟩, ?_⟩
  exact hf B H1 (.str z) (.str z) ok1 (.str z) Qd Q (fun d v H3 q e3 hd => hQ d v H3 q (b1.trans e3.nil) (ok1.ex e3) hd) q
end
end Dz

namespace Dz
open PySem PySem.Spec PyProof.Rows L2

/-! ### targets -/
theorem wipe_get (σ : L2.St) (i : Nat) : ∀ vs : List Nat, (wipe σ vs)[i]? = if i ∈ vs then (σ[i]?).map (fun _ => none) else σ[i]?
  | [] => by simp [wipe]
  | v :: vs => by
    unfold wipe
    rw [List.getElem?_set, wipe_get σ i vs, wipe_length]
    by_cases h : v = i
    · subst h
      have hm : v ∈ v :: vs := List.mem_cons_self
      rw [if_pos rfl, if_pos hm]
      by_cases hl : v < σ.length
      · rw [if_pos hl, List.getElem?_eq_getElem hl]; rfl
      · rw [if_neg hl, List.getElem?_eq_none (by omega)]; rfl
    · rw [if_neg h]
      by_cases hm : i ∈ vs
      · rw [if_pos hm, if_pos (List.mem_cons_of_mem _ hm)]
      · rw [if_neg hm, if_neg (fun z => (List.mem_cons.mp z).elim (fun q => h q.symm) hm)]
theorem wipe_eq {σ σ' : L2.St} {vs : List Nat} (hl : σ'.length = σ.length) (h : ∀ i, i ∉ vs → σ'[i]? = σ[i]?) : wipe σ' vs = wipe σ vs := by
  apply List.ext_getElem?
  intro i
  rw [wipe_get, wipe_get]
  by_cases hi : i ∈ vs
  · rw [if_pos hi, if_pos hi]
    by_cases hb : i < σ.length
    · rw [List.getElem?_eq_getElem hb, List.getElem?_eq_getElem (by omega : i < σ'.length)]; rfl
    · rw [List.getElem?_eq_none (by omega : σ.length ≤ i), List.getElem?_eq_none (by omega : σ'.length ≤ i)]
  · rw [if_neg hi, if_neg hi]; exact h i hi
theorem wipe_wipe (σ : L2.St) (vs : List Nat) : wipe (wipe σ vs) vs = wipe σ vs := wipe_eq (wipe_length σ vs) fun i hi => by rw [wipe_get, if_neg hi]
abbrev MG := D → Rho → (Rho → Prop) → Prop
/-- ws: the slots that it stores -/
def EvG (G : Ga) (g : TG) (ws : List Nat) (m : MG) : Prop := ∀ (B : List Addr) (H : Hp) (σ : L2.St) (ρ : Rho), Sta G B H σ ρ → ∀ (v : V) (d : D), Dt G B H v d → ∀ (Qr : Rho → Prop) (Q : L2.St → Hp → Prop),
  (∀ ρ' σ', Qr ρ' → Sta G B H σ' ρ' → σ'.length = σ.length → (∀ (i : Nat), i ∉ ws → σ'[i]? = σ[i]?) → (∀ (i : Nat) (ds : List D), ρ'[i]? = some (Slot.own ds) → ρ[i]? = some (Slot.own ds) ∧ σ'[i]? = σ[i]?) → Q σ' H) → m d ρ Qr → g v σ H Q
def gvName (i : Nat) : MG := fun d ρ Q => Q (ρ.set i (.val d))
theorem set_own {ρ : Rho} {σ : L2.St} {i : Nat} {v : V} {d : D} (j : Nat) (ds : List D) (h : (ρ.set i (Slot.val d))[j]? = some (Slot.own ds)) : ρ[j]? = some (Slot.own ds) ∧ (σ.set i (some v))[j]? = σ[j]? := by
  rw [List.getElem?_set] at h ⊢
  split at h
  · split at h <;> cases h
  · rename_i z
    rw [if_neg z]; exact ⟨h, rfl⟩
theorem evg_name {G : Ga} {i : Nat} : EvG G (gName i) [i] (gvName i) := by
  intro B H σ ρ hS v d hd Qr Q hQ hm
  exact hQ _ _ hm (hS.set hd) (by simp) (fun j hj => List.getElem?_set_ne (fun z => hj (by simp [z]))) (fun j ds h => set_own j ds h)
/-- (a, b, ..) = a tuple -/
abbrev MGs := List D → Rho → (Rho → Prop) → Prop
def EvGs (G : Ga) (g : TGs) (ws : List Nat) (m : MGs) : Prop := ∀ (B : List Addr) (H : Hp) (σ : L2.St) (ρ : Rho), Sta G B H σ ρ → ∀ (v : List V) (d : List D), Dts G B H v d → ∀ (Qr : Rho → Prop) (Q : L2.St → Hp → Prop),
  (∀ ρ' σ', Qr ρ' → Sta G B H σ' ρ' → σ'.length = σ.length → (∀ (i : Nat), i ∉ ws → σ'[i]? = σ[i]?) → (∀ (i : Nat) (ds : List D), ρ'[i]? = some (Slot.own ds) → ρ[i]? = some (Slot.own ds) ∧ σ'[i]? = σ[i]?) → Q σ' H) → m d ρ Qr → g v σ H Q
def gvNil : MGs := fun ds ρ Q => match ds with
  | [] => Q ρ
  | _ => False
def gvCons (m : MG) (ms : MGs) : MGs := fun ds ρ Q => match ds with
  | d :: r => m d ρ fun ρ' => ms r ρ' Q
  | _ => False
theorem evgs_nil {G : Ga} : EvGs G gNil [] gvNil := by
  intro B H σ ρ hS v d hd Qr Q hQ hm
  cases hd with
  | nil => exact ⟨rfl, hQ _ _ hm hS rfl (fun _ _ => rfl) (fun _ _ h => ⟨h, rfl⟩)⟩
  | cons _ _ => exact (show False from hm).elim
theorem evgs_cons {G : Ga} {g : TG} {gs : TGs} {ws vs : List Nat} {m : MG} {ms : MGs} (h1 : EvG G g ws m) (h2 : EvGs G gs vs ms) : EvGs G (gCons g gs) (ws ++ vs) (gvCons m ms) := by
  intro B H σ ρ hS v d hd Qr Q hQ hm
  cases hd with
  | nil => exact (show False from hm).elim
  | cons a t =>
    refine ⟨_, _, rfl, ?_⟩
    refine h1 B H σ ρ hS _ _ a (fun ρ' => ms _ ρ' Qr) _ (fun ρ' σ' q hS' hl hw ho => ?_) hm
    refine h2 B H σ' ρ' hS' _ _ t Qr _ (fun ρ2 σ2 q hS2 hl2 hw2 ho2 => ?_) q
    refine hQ _ _ q hS2 (hl2.trans hl) (fun i hi => ?_) (fun i ds e => ?_)
    · rw [hw2 i (fun z => hi (List.mem_append_right _ z)), hw i (fun z => hi (List.mem_append_left _ z))]
    · obtain ⟨e1, e2⟩ := ho2 i ds e
      obtain ⟨e3, e4⟩ := ho i ds e1
      exact ⟨e3, e2.trans e4⟩
def gvTup (n : Nat) (ms : MGs) : MG := fun d ρ Q => match d with
  | .tup ds => ds.length = n ∧ ms ds ρ Q
  | _ => False
theorem evg_tup {G : Ga} {n : Nat} {gs : TGs} {ws : List Nat} {ms : MGs} (h : EvGs G gs ws ms) : EvG G (gTup G.K n gs) ws (gvTup n ms) := by
  intro B H σ ρ hS v d hd Qr Q hQ hm
  cases hd with
  | tup h1 h2 => exact ⟨_, _, rfl, h1.sq, by rw [h2.length]; exact hm.1, h B H σ ρ hS _ _ h2 Qr Q hQ hm.2⟩
  | _ => exact (show False from hm).elim

/-! ### what is walked -/
def ItD (G : Ga) (B : List Addr) (H : Hp) (J : It) (ds : List D) : Prop := ∀ (B' : List Addr) (H' : Hp), Tr B H B' H' → Ok G B' H' → ∀ i, (i = ds.length → J.stop i H') ∧
  ∀ d, ds[i]? = some d → J.go i H' ∧ ∀ x H'', J.yld i H' x H'' → Bx [] H' H'' ∧ Dt G B' H'' x d
def EvI (G : Ga) (wi : TI) (m : MA) : Prop := ∀ (B : List Addr) (H : Hp) (σ : L2.St) (ρ : Rho), Sta G B H σ ρ → ∀ (Qd : List D → Prop) (Q : It → Hp → Prop),
  (∀ ds J H1, Qd ds → Bx G.c H H1 → Ok G B H1 → ItD G B H1 J ds → Q J H1) → m ρ Qd → wi σ H Q
def asLst (d : D) (Q : List D → Prop) : Prop := match d with
  | .lst xs => Q xs
  | _ => False
def asTup (d : D) (Q : List D → Prop) : Prop := match d with
  | .tup xs => Q xs
  | _ => False
def miList (m : ME) : MA := fun ρ Q => m ρ fun d => asLst d Q
def miTup (m : ME) : MA := fun ρ Q => m ρ fun d => asTup d Q
def chars (x : Str) : List D := x.cps.toList.map fun c => .str ⟨#[c]⟩
def miStr (m : ME) : MA := fun ρ Q => m ρ fun d => asStr d fun x => Q (chars x)
def upTo (n : Nat) : List D := (List.range n).map fun (i : Nat) => D.int (i : Int)
def from_ (lo : Int) (n : Nat) : List D := (List.range n).map fun (i : Nat) => D.int (lo + (i : Int))
def miRng1 (m : MA) : MA := fun ρ Q => m ρ fun ds => match ds with
  | [.int n] => n < 2 ^ 62 ∧ -(2 ^ 62) ≤ n ∧ Q (upTo n.toNat)
  | _ => False
def miRng2 (m : MA) : MA := fun ρ Q => m ρ fun ds => match ds with
  | [.int i, .int j] => (-(2 ^ 62) ≤ i ∧ i < 2 ^ 62 ∧ -(2 ^ 62) ≤ j ∧ j < 2 ^ 62) ∧ Q (from_ i (j - i).toNat)
  | _ => False
section
variable {G : Ga} {ta : TE} {ma : ME} {tA : TA} {mA : MA}
theorem itd_list {B : List Addr} {H : Hp} {a : Addr} {vs : List V} {ds : List D} (h1 : H a = some (.lst vs)) (h2 : a ∉ B) (h3 : Dts G B H vs ds) : ItD G B H (Itl G.K a) ds := by
  intro B' H' k ok i
  have e1 := (k _ _ h2 h1).2
  have q1 : SqL G.K H' a vs := .inl (.inl e1)
  have h4 : Dts G B' H' vs ds := h3.to k
  refine ⟨fun e => ⟨vs, q1, by rw [h3.length, e]; exact Nat.le_refl _⟩, fun d e => ?_⟩
  obtain ⟨v, ev, hv⟩ := h4.get e
  refine ⟨⟨vs, v, q1, ev⟩, fun x H'' hy => ?_⟩
  obtain ⟨rfl, f⟩ := hy
  have : v = x := Option.some.inj (ev.symm.trans (f _ q1))
  subst this
  exact ⟨Bx.refl _ _, hv⟩
theorem evi_list (h : EvD G ta ma) : EvI G (iList G.K ta) (miList ma) := by
  intro B H σ ρ hS Qd Q hQ hm
  refine h B H σ ρ hS (fun d => asLst d Qd) _ (fun d v H1 q b1 ok1 hd => ?_) hm
  cases hd with
  | lst h1 h2 h3 => exact ⟨_, rfl, ⟨_, .inl (.inl h1)⟩, hQ _ _ H1 q b1 ok1 (itd_list h1 h2 h3)⟩
  | _ => exact (show False from q).elim
theorem evi_tup (h : EvD G ta ma) : EvI G (iTup G.K ta) (miTup ma) := by
  intro B H σ ρ hS Qd Q hQ hm
  refine h B H σ ρ hS (fun d => asTup d Qd) _ (fun d v H1 q b1 ok1 hd => ?_) hm
  cases hd with
  | tup h1 h3 =>
    refine ⟨_, rfl, ⟨_, h1.sq⟩, hQ _ _ H1 q b1 ok1 (fun B' H' k ok i => ?_)⟩
    have h4 := h3.to k
    have q1 : SqT G.K H' _ _ := StT.sq (B := B') (by
      rcases h1 with ⟨h1, hn⟩ | h1
      · exact .inl ⟨(k _ _ hn h1).2, (k _ _ hn h1).1⟩
      · exact .inr h1)
    refine ⟨fun e => ⟨_, q1, by rw [h3.length, e]; exact Nat.le_refl _⟩, fun d e => ?_⟩
    obtain ⟨v, ev, hv⟩ := h4.get e
    refine ⟨⟨_, v, q1, ev⟩, fun x H'' hy => ?_⟩
    obtain ⟨rfl, f⟩ := hy
    have : v = x := Option.some.inj (ev.symm.trans (f _ q1))
    subst this
    exact ⟨Bx.refl _ _, hv⟩
  | _ => exact (show False from q).elim
theorem chars_get {x : Str} {i : Nat} {d : D} (h : (chars x)[i]? = some d) : ∃ c, x.cps[i]? = some c ∧ d = .str ⟨#[c]⟩ := by
  unfold chars at h
  rw [List.getElem?_map] at h
  cases e : x.cps.toList[i]? with
  | none => rw [e] at h; cases h
  | some c =>
    rw [e] at h
    exact ⟨c, by simpa using e, (Option.some.inj h).symm⟩
theorem evi_str (h : EvD G ta ma) : EvI G (iStr ta) (miStr ma) := by
  intro B H σ ρ hS Qd Q hQ hm
  refine h B H σ ρ hS (fun d => asStr d fun x => Qd (chars x)) _ (fun d v H1 q b1 ok1 hd => ?_) hm
  obtain ⟨x, rfl, rfl, q⟩ := asStr_inv hd q
  refine ⟨x, rfl, hQ _ _ H1 q b1 ok1 (fun B' H' k ok i => ⟨fun e => ?_, fun d e => ?_⟩)⟩
  · show x.cps.size ≤ i
    rw [e]; simp [chars]
  · obtain ⟨c, e1, rfl⟩ := chars_get e
    refine ⟨?_, fun y H'' hy => ?_⟩
    · show i < x.cps.size
      exact (Array.getElem?_eq_some_iff.mp e1).1
    · obtain ⟨rfl, c', e2, rfl⟩ := hy
      have : c = c' := Option.some.inj (e1.symm.trans e2)
      subst this
      exact ⟨Bx.refl _ _, .str _⟩
theorem itd_rng {B : List Addr} {H : Hp} {lo : Int} {n : Nat} : ItD G B H (Itr lo n) (from_ lo n) := by
  intro B' H' k ok i
  refine ⟨fun e => ?_, fun d e => ?_⟩
  · show n ≤ i
    rw [e]; simp [from_]
  · unfold from_ at e
    rw [List.getElem?_map] at e
    by_cases hi : i < n
    · rw [List.getElem?_range hi] at e
      have e' : D.int (lo + (i : Int)) = d := Option.some.inj e
      subst e'
      refine ⟨hi, fun x H'' hy => ?_⟩
      obtain ⟨rfl, rfl⟩ := hy
      exact ⟨Bx.refl _ _, .int _⟩
    · rw [List.getElem?_eq_none (by simpa using hi)] at e; cases e
theorem from_zero (n : Nat) : from_ 0 n = upTo n := by
  unfold from_ upTo
  congr 1
  funext i
  rw [Int.zero_add]
theorem evi_rng1 (h : EvA G tA mA) : EvI G (iRng1 tA) (miRng1 mA) := by
  intro B H σ ρ hS Qd Q hQ hm
  refine h B H σ ρ hS (fun ds => match ds with
    | [.int n] => n < 2 ^ 62 ∧ -(2 ^ 62) ≤ n ∧ Qd (upTo n.toNat)
    | _ => False) _ (fun ds v H1 q b1 ok1 hd => ?_) hm
  cases hd with
  | nil => exact (show False from q).elim
  | cons a t =>
    cases t with
    | cons _ _ => cases a <;> exact (show False from q).elim
    | nil =>
      cases a with
      | int n => exact ⟨n, rfl, q.2.1, q.1, hQ _ _ H1 q.2.2 b1 ok1 (by rw [← from_zero]; exact itd_rng)⟩
      | _ => exact (show False from q).elim
theorem evi_rng2 (h : EvA G tA mA) : EvI G (iRng2 tA) (miRng2 mA) := by
  intro B H σ ρ hS Qd Q hQ hm
  refine h B H σ ρ hS (fun ds => match ds with
    | [.int i, .int j] => (-(2 ^ 62) ≤ i ∧ i < 2 ^ 62 ∧ -(2 ^ 62) ≤ j ∧ j < 2 ^ 62) ∧ Qd (from_ i (j - i).toNat)
    | _ => False) _ (fun ds v H1 q b1 ok1 hd => ?_) hm
  cases hd with
  | nil => exact (show False from q).elim
  | cons a t =>
    cases t with
    | nil => cases a <;> exact (show False from q).elim
    | cons c t2 =>
      cases t2 with
      | cons _ _ => cases a <;> cases c <;> exact (show False from q).elim
      | nil =>
        cases a with
        | int i =>
          cases c with
          | int j => exact ⟨i, j, rfl, q.1, hQ _ _ H1 q.2 b1 ok1 itd_rng⟩
          | _ => exact (show False from q).elim
        | _ => cases c <;> exact (show False from q).elim
end

/-! ### comprehensions -/
def compM (mg : MG) (mt : MT) (me : ME) (ρ : Rho) : List D → (List D → Prop) → Prop
  | [], Q => Q []
  | d :: ds, Q => mg d ρ fun ρ1 => mt ρ1 fun b => if b = true then me ρ1 fun y => compM mg mt me ρ ds fun ys => Q (y :: ys) else compM mg mt me ρ ds Q
def mLc (mi : MA) (mg : MG) (mt : MT) (me : ME) (vs : List Nat) : ME := fun ρ Q => mi ρ fun ds => ds.length ≤ sizeLine ∧ compM mg mt me (wipeR ρ vs) ds fun out => Q (.lst out)
def mYes : MT := fun _ Q => Q true
theorem evt_yes {G : Ga} : EvT G (fun _ H Q => Q true H) mYes := fun B H σ ρ hS Qd Q hQ hm => hQ true H hm (Bx.refl _ _) hS.ok
theorem evd_lc {G : Ga} {wi : TI} {g : TG} {tt : TT} {te : TE} {vs ws : List Nat} {mi : MA} {mg : MG} {mt : MT} {me : ME} (hi : EvI G wi mi) (hg : EvG G g ws mg) (hw : ∀ i ∈ ws, i ∈ vs) (ht : EvT G tt mt) (he : EvD G te me) :
    EvD G (tLc wi g tt te vs) (mLc mi mg mt me vs) := by
  intro B H σ ρ hS Qd Q hQ hm
  refine hi B H σ ρ hS (fun ds => ds.length ≤ sizeLine ∧ compM mg mt me (wipeR ρ vs) ds fun out => Qd (.lst out)) _ (fun ds J H1 q b1 ok1 hJ => ?_) hm
  obtain ⟨hlen, q⟩ := q
  intro Dl hD
  have hS1 := hS.bx b1 ok1
  have nB : Dl ∉ B := ok1.fresh hD
  have nG : Dl ∉ G.c := fun z => nB (ok1.sub _ z)
  refine ⟨fun i m H' => i + m = ds.length ∧ ∃ acc accD, H' Dl = some (.lst acc) ∧ Dts G (Dl :: B) H' acc accD ∧ acc.length ≤ i ∧ Sta G (Dl :: B) H' (wipe σ vs) (wipeR ρ vs) ∧ Tr B H1 (Dl :: B) H' ∧ Bx G.c H1 H' ∧
      compM mg mt me (wipeR ρ vs) (ds.drop i) (fun ys => Qd (.lst (accD ++ ys))), ⟨ds.length, by omega, [], [], upd_same, .nil, Nat.zero_le _, (hS1.wipe vs).more hD, fun a o n e => ⟨fun z => (List.mem_cons.mp z).elim (fun z => ne_of_none e hD z) n, by rw [upd_ne (ne_of_none e hD)]; exact e⟩, Bx.new hD, q⟩, ?_⟩
  rintro i m H' ⟨em, acc, accD, hacc, hds, hal, hS', hT, hB, hc⟩
  obtain ⟨hstop, hgo⟩ := hJ (Dl :: B) H' hT hS'.ok i
  by_cases hlt : i < ds.length
  · right
    have ed : ds[i]? = some ds[i] := List.getElem?_eq_getElem hlt
    obtain ⟨go, yl⟩ := hgo _ ed
    refine ⟨go, fun H2 => ∃ acc accD, H2 Dl = some (.lst acc) ∧ Dts G (Dl :: B) H2 acc accD ∧ acc.length ≤ i + 1 ∧ Sta G (Dl :: B) H2 (wipe σ vs) (wipeR ρ vs) ∧ Tr B H1 (Dl :: B) H2 ∧ Bx G.c H1 H2 ∧
      compM mg mt me (wipeR ρ vs) (ds.drop (i + 1)) (fun ys => Qd (.lst (accD ++ ys))), fun H2 h2 => ⟨m - 1, by omega, by omega, h2⟩, fun x H2 hy => ?_⟩
    obtain ⟨e2, hx⟩ := yl x H2 hy
    have hS2 : Sta G (Dl :: B) H2 (wipe σ vs) (wipeR ρ vs) := hS'.bx e2.nil (hS'.ok.ex e2)
    rw [List.drop_eq_getElem_cons hlt] at hc
    refine hg (Dl :: B) H2 (wipe σ vs) (wipeR ρ vs) hS2 x ds[i] hx _ _ (fun ρ1 σ1 q1 hS3 hl3 hw3 ho3 => ?_) hc
    refine ⟨by rw [wipe_eq hl3 fun j hj => hw3 j fun z => hj (hw j z), wipe_wipe], ?_⟩
    refine ht (Dl :: B) H2 σ1 ρ1 hS3 _ _ (fun b H3 q3 b3 ok3 => ?_) q1
    have t3 : ∀ {H4 : Hp}, Bx G.c H2 H4 → Ok G (Dl :: B) H4 → (H4 Dl = some (.lst acc)) ∧ Dts G (Dl :: B) H4 acc accD ∧ Sta G (Dl :: B) H4 (wipe σ vs) (wipeR ρ vs) ∧ Tr B H1 (Dl :: B) H4 ∧ Bx G.c H1 H4 := fun {H4} b4 ok4 =>
      ⟨b4 _ _ nG (e2 _ _ (by simp) hacc), (hds.bx e2.nil).bx (b4.sub hS2.ok.sub), hS2.bx b4 ok4, fun a o n e => by
        obtain ⟨n1, e1⟩ := hT a o n e
        exact ⟨n1, b4 a o (fun z => n1 (hS2.ok.sub _ z)) (e2 a o (by simp) e1)⟩, (hB.trans e2.nil).trans b4⟩
    cases b with
    | false =>
      rw [if_neg Bool.false_ne_true] at q3 ⊢
      obtain ⟨r1, r2, r3, r4, r5⟩ := t3 b3 ok3
      exact ⟨acc, accD, r1, r2, by omega, r3, r4, r5, q3⟩
    | true =>
      rw [if_pos rfl] at q3 ⊢
      refine he (Dl :: B) H3 σ1 ρ1 (hS3.bx b3 ok3) _ _ (fun y v H4 q4 b4 ok4 hv => ?_) q3
      obtain ⟨r1, r2, r3, r4, r5⟩ := t3 (b3.trans b4) ok4
      have hm4 : Dl ∈ Dl :: B := by simp
      refine ⟨acc, r1, by omega, acc ++ [v], accD ++ [y], upd_same, (r2.append (.cons hv .nil)).bx (Bx.put hm4), by rw [List.length_append]; show acc.length + 1 ≤ i + 1; omega, ?_, fun a o n e => ?_, fun a o n e => ?_, ?_⟩
      · refine ⟨ok4.put hm4 nG, r3.len, fun j d e => ?_, fun j ds' e => ?_, r3.inj⟩
        · obtain ⟨w, e1, e2⟩ := r3.val j d e
          exact ⟨w, e1, e2.bx (Bx.put hm4)⟩
        · obtain ⟨a, us, e1, e2, e3, e4, e5⟩ := (hS1.wipe vs).own j ds' e
          have na : a ≠ Dl := fun z => nB (z ▸ e3)
          obtain ⟨a', us', f1, f2, f3, f4, f5⟩ := r3.own j ds' e
          have ea : a' = a := by rw [e1] at f1; cases f1; rfl
          subst ea
          exact ⟨a', us', f1, by rw [upd_ne na]; exact f2, f3, f4, f5.bx (Bx.put hm4)⟩
      · obtain ⟨n1, e1⟩ := r4 a o n e
        exact ⟨n1, by rw [upd_ne fun z => n1 (by rw [z]; exact hm4)]; exact e1⟩
      · have := r5 a o n e
        rw [upd_ne]
        · exact this
        · rintro rfl
          rw [e] at hD; cases hD
      · have e5 : ∀ ys, accD ++ [y] ++ ys = accD ++ (y :: ys) := fun ys => by simp
        simp only [e5]
        exact q4
  · left
    have ei : i = ds.length := by omega
    refine ⟨hstop ei, ?_⟩
    rw [List.drop_eq_nil_of_le (by omega)] at hc
    have hc' : Qd (.lst (accD ++ [])) := hc
    rw [List.append_nil] at hc'
    refine hQ _ _ H' hc' (b1.trans hB) (hS'.ok.drop nG) (.lst hacc nB (hds.less fun a ha => List.mem_cons_of_mem _ ha))
end Dz

namespace Dz
open PySem PySem.Spec PyProof.Rows L2

/-! ### data as the library's data -/
def kPy : Key → PyData
  | .inl i => .int i
  | .inr x => .str x
mutual
def D.py : D → PyData
  | .bl b => .bool b
  | .int i => .int i
  | .str x => .str x
  | .lst xs => .list (D.pyAll xs)
  | .tup xs => .tuple (D.pyAll xs)
  | .dic kvs => .dict (D.pyKv kvs)
  | _ => .none
def D.pyAll : List D → List PyData
  | [] => []
  | d :: ds => d.py :: D.pyAll ds
def D.pyKv : List (Key × D) → List (PyData × PyData)
  | [] => []
  | (k, d) :: ds => (kPy k, d.py) :: D.pyKv ds
end
mutual
def D.pl : D → Bool
  | .non => true
  | .bl _ => true
  | .int _ => true
  | .str _ => true
  | .lst xs => D.plAll xs
  | .tup xs => D.plAll xs
  | _ => false
def D.plAll : List D → Bool
  | [] => true
  | d :: ds => d.pl && D.plAll ds
end
section
variable {G : Ga} {B : List Addr} {H : Hp}
mutual
theorem Dt.dp : ∀ {v : V} {d : D}, Dt G B H v d → d.pl = true → Dp G.K H v d.py
  | _, _, .non, _ => by simp only [D.py]; exact .non
  | _, _, .bl b, _ => by simp only [D.py]; exact .bl b
  | _, _, .int i, _ => by simp only [D.py]; exact .int i
  | _, _, .str x, _ => by simp only [D.py]; exact .str x
  | _, _, .tup h hs, e => by simp only [D.py]; exact .tup h.sq (Dts.dp hs (by simpa only [D.pl] using e))
  | _, _, .lst h hn hs, e => by simp only [D.py]; exact .lst (.inl (.inl h)) (Dts.dp hs (by simpa only [D.pl] using e))
  | _, _, .dic _ _ _, e => by simp [D.pl] at e
  | _, _, .obj _ _ _, e => by simp [D.pl] at e
  | _, _, .ty _, e => by simp [D.pl] at e
  | _, _, .cls _, e => by simp [D.pl] at e
  | _, _, .bag _, e => by simp [D.pl] at e
theorem Dts.dp : ∀ {v : List V} {d : List D}, Dts G B H v d → D.plAll d = true → DpAll G.K H v (D.pyAll d)
  | _, _, .nil, _ => by simp only [D.pyAll]; exact .nil
  | _, _, .cons h hs, e => by
    simp only [D.plAll, Bool.and_eq_true] at e
    simp only [D.pyAll]
    exact .cons (Dt.dp h e.1) (Dts.dp hs e.2)
end
end
def sh (d : D) : Bool := d.pl && SeqAt.shaped d.py
theorem sh_pl {d : D} (h : sh d = true) : d.pl = true := (Bool.and_eq_true_iff.mp h).1
theorem sh_py {d : D} (h : sh d = true) : SeqAt.shaped d.py = true := (Bool.and_eq_true_iff.mp h).2
def eqv (x y : D) : Bool := PyData.eqv x.py y.py
def eqF (x y : D) (Q : D → Prop) : Prop := match x, y with
  | .str i, .str j => Q (.bl (i == j))
  | x, y => sh x = true ∧ sh y = true ∧ Q (.bl (eqv x y))
def neF (x y : D) (Q : D → Prop) : Prop := match x, y with
  | .str i, .str j => Q (.bl (!(i == j)))
  | x, y => sh x = true ∧ sh y = true ∧ Q (.bl (!eqv x y))
def rEqU (K : PySem.W.Frag) : R2 := fun x y H Q => rEq x y H Q ∨ rEqD K x y H Q
def rNeU (K : PySem.W.Frag) : R2 := fun x y H Q => rNe x y H Q ∨ rNeD K x y H Q
section
variable {G : Ga}
theorem opd_eq : OpD G (rEqU G.K) eqF := by
  intro B H x y dx dy ok hx hy Qd Q hQ hm
  unfold eqF at hm
  split at hm
  · cases hx; cases hy
    exact .inl ⟨rfl, by rw [dec_str]; exact hQ _ _ H hm (Bx.refl _ _) (.bl _)⟩
  · exact .inr ⟨_, _, hx.dp (sh_pl hm.1), hy.dp (sh_pl hm.2.1), sh_py hm.1, sh_py hm.2.1, hQ _ _ H hm.2.2 (Bx.refl _ _) (.bl _)⟩
theorem opd_ne : OpD G (rNeU G.K) neF := by
  intro B H x y dx dy ok hx hy Qd Q hQ hm
  unfold neF at hm
  split at hm
  · cases hx; cases hy
    exact .inl ⟨rfl, by rw [dec_str]; exact hQ _ _ H hm (Bx.refl _ _) (.bl _)⟩
  · exact .inr ⟨_, _, hx.dp (sh_pl hm.1), hy.dp (sh_pl hm.2.1), sh_py hm.1, sh_py hm.2.1, hQ _ _ H hm.2.2 (Bx.refl _ _) (.bl _)⟩

/-! ### + - * // % -/
def addF (x y : D) (Q : D → Prop) : Prop := match x, y with
  | .int i, .int j => Q (.int (i + j))
  | .str a, .str b => a.length + b.length ≤ sizeLine ∧ Q (.str (a ++ b))
  | .lst xs, .lst ys => xs.length + ys.length ≤ sizeLine ∧ Q (.lst (xs ++ ys))
  | .tup xs, .tup ys => xs.length + ys.length ≤ sizeLine ∧ Q (.tup (xs ++ ys))
  | _, _ => False
def rAddS0 : R2 := fun x y H Q => ∃ i j, x = .str i ∧ y = .str j ∧ i.length + j.length ≤ sizeLine ∧ Q (.str (i ++ j)) H
theorem op_addS0 {X : Cx} : OpR X (binaryOp .Add) rAddS0 := op_add_str
def rAddU (K : PySem.W.Frag) : R2 := fun x y H Q => rI0 (fun i j => .int (i + j)) x y H Q ∨ (rAddS0 x y H Q ∨ (rCat x y H Q ∨ rCatA K x y H Q))
theorem op_addU {X : Cx} : OpR X (binaryOp .Add) (rAddU X.K) := op_add.or (op_addS0.or (op_cat.or op_catA))
theorem Dts.nil_iff {B H} {vs : List V} {ds : List D} (h : Dts G B H vs ds) : vs = [] ↔ ds = [] := by
  cases h <;> simp
theorem opd_add : OpD G (rAddU G.K) addF := by
  intro B H x y dx dy ok hx hy Qd Q hQ hm
  cases hx with
  | int i =>
    cases hy with
    | int j => exact .inl ⟨i, j, rfl, rfl, hQ _ _ H hm (Bx.refl _ _) (.int _)⟩
    | _ => exact (show False from hm).elim
  | str i =>
    cases hy with
    | str j => exact .inr (.inl ⟨i, j, rfl, rfl, hm.1, hQ _ _ H hm.2 (Bx.refl _ _) (.str _)⟩)
    | _ => exact (show False from hm).elim
  | lst h1 n1 s1 =>
    cases hy with
    | lst h2 n2 s2 => exact .inr (.inr (.inl ⟨_, _, _, _, rfl, rfl, h1, h2, by rw [s1.length, s2.length]; exact hm.1, fun p hp => hQ _ _ _ hm.2 (Bx.new hp) (dt_newL ok hp (s1.append s2))⟩))
    | _ => exact (show False from hm).elim
  | tup h1 s1 =>
    cases hy with
    | tup h2 s2 =>
      refine .inr (.inr (.inr ⟨_, _, _, _, rfl, rfl, h1.sq, h2.sq, by rw [s1.length, s2.length]; exact hm.1, fun e => ?_, fun _ e => ?_, fun _ _ p hp => hQ _ _ _ hm.2 (Bx.new hp) (dt_newT ok hp (s1.append s2))⟩))
      · have e' := s1.nil_iff.mp e
        refine hQ _ _ H hm.2 (Bx.refl _ _) ?_
        rw [e', List.nil_append]
        exact .tup h2 s2
      · have e' := s2.nil_iff.mp e
        refine hQ _ _ H hm.2 (Bx.refl _ _) ?_
        rw [e', List.append_nil]
        exact .tup h1 s1
    | _ => exact (show False from hm).elim
  | _ => exact (show False from hm).elim
def subF (x y : D) (Q : D → Prop) : Prop := match x, y with
  | .int i, .int j => Q (.int (i - j))
  | _, _ => False
theorem opd_i0 {g : Int → Int → V} {f : D → D → MD} (h : ∀ (dx dy : D) (Qd : D → Prop), f dx dy Qd → ∃ i j d, dx = .int i ∧ dy = .int j ∧ (∀ B H, Dt G B H (g i j) d) ∧ Qd d) : OpD G (rI0 g) f := by
  intro B H x y dx dy ok hx hy Qd Q hQ hm
  obtain ⟨i, j, d, rfl, rfl, hd, q⟩ := h _ _ _ hm
  cases hx
  cases hy
  exact ⟨i, j, rfl, rfl, hQ _ _ H q (Bx.refl _ _) (hd B H)⟩
theorem opd_i {C : Int → Int → Prop} {g : Int → Int → V} {f : D → D → MD} (h : ∀ (dx dy : D) (Qd : D → Prop), f dx dy Qd → ∃ i j d, dx = .int i ∧ dy = .int j ∧ C i j ∧ (∀ B H, Dt G B H (g i j) d) ∧ Qd d) : OpD G (rI C g) f := by
  intro B H x y dx dy ok hx hy Qd Q hQ hm
  obtain ⟨i, j, d, rfl, rfl, c, hd, q⟩ := h _ _ _ hm
  cases hx
  cases hy
  exact ⟨i, j, rfl, rfl, c, hQ _ _ H q (Bx.refl _ _) (hd B H)⟩
theorem opd_sub : OpD G (rI0 fun i j => .int (i - j)) subF := opd_i0 fun dx dy Qd h => by
  cases dx <;> cases dy <;> first
    | exact ⟨_, _, _, rfl, rfl, fun _ _ => .int _, h⟩
    | exact (show False from h).elim
def modF (x y : D) (Q : D → Prop) : Prop := match x, y with
  | .int i, .int j => 0 < j ∧ Q (.int (i % j))
  | _, _ => False
theorem opd_mod : OpD G (rI (fun _ j => 0 < j) fun i j => .int (i % j)) modF := opd_i fun dx dy Qd h => by
  cases dx <;> cases dy <;> first
    | exact ⟨_, _, _, rfl, rfl, h.1, fun _ _ => .int _, h.2⟩
    | exact (show False from h).elim
def divF (x y : D) (Q : D → Prop) : Prop := match x, y with
  | .int i, .int j => (0 < j ∧ j.natAbs.log2 < 9000) ∧ Q (.int (i / j))
  | _, _ => False
theorem opd_div : OpD G (rI CDivW fun i j => .int (i / j)) divF := opd_i fun dx dy Qd h => by
  cases dx <;> cases dy <;> first
    | exact ⟨_, _, _, rfl, rfl, h.1, fun _ _ => .int _, h.2⟩
    | exact (show False from h).elim
def repS (x : Str) (n : Nat) : Str := ⟨((List.replicate n x.cps.toList).flatten).toArray⟩
def mulF (x y : D) (Q : D → Prop) : Prop := match x, y with
  | .int i, .int j => i.natAbs.log2 + j.natAbs.log2 < 1000000 ∧ Q (.int (i * j))
  | .str a, .int n => (0 ≤ n ∧ n ≤ 10000 ∧ a.length ≤ 1000) ∧ Q (.str (repS a n.toNat))
  | .lst xs, .int n => (0 ≤ n ∧ n ≤ 10000 ∧ xs.length ≤ 1000) ∧ Q (.lst (List.replicate n.toNat xs).flatten)
  | _, _ => False
def rMulS : R2 := fun x y H Q => ∃ (a : Str) (n : Int), x = .str a ∧ y = .int n ∧ (0 ≤ n ∧ n ≤ 10000 ∧ a.length ≤ 1000) ∧ Q (.str (repS a n.toNat)) H
theorem fold_rep (a : Array Nat) : ∀ (n : Nat) (acc : Array Nat), ((List.replicate n a).foldl (· ++ ·) acc) = acc ++ ((List.replicate n a.toList).flatten).toArray
  | 0, acc => by simp
  | n + 1, acc => by
    rw [List.replicate_succ, List.foldl_cons, fold_rep a n, List.replicate_succ, List.flatten_cons]
    apply Array.ext'
    simp
theorem flat_len {α : Type} (l : List α) : ∀ n, (List.replicate n l).flatten.length = n * l.length
  | 0 => by simp
  | n + 1 => by rw [List.replicate_succ, List.flatten_cons, List.length_append, flat_len l n, Nat.succ_mul]; omega
theorem op_mulS {X : Cx} : OpR X (binaryOp .Mult) rMulS := by
  intro pins s σ H x y v u Q I rx ry h
  obtain ⟨a, n, rfl, rfl, ⟨h0, h1, h2⟩, q⟩ := h
  obtain ⟨t, rfl⟩ := rx
  obtain ⟨t', rfl⟩ := ry
  have hlen : a.length * n.toNat ≤ 10000000 := by
    have e1 : n.toNat ≤ 10000 := by omega
    calc a.length * n.toNat ≤ 1000 * 10000 := Nat.mul_le_mul h2 e1
      _ = 10000000 := by decide
  have done : ∀ tk, EP X pins σ Q (.str (repS a n.toNat) tk) { s with toks := s.toks + 1 } := fun tk => ⟨.str _, H, I.tok _, ⟨_, rfl⟩, q⟩
  refine PySem.P.mul_str ?_ (fun hn hb => ?_) (fun hn hb => ?_) ?_
  · rw [decide_eq_false (by omega), decide_eq_false (by omega)]; rfl
  · intro z
    have e1 : (2 ^ 63 - 1 : Int) / n ≥ (2 ^ 63 - 1) / 10000 := by
      have hp : 0 < n := by omega
      exact Int.le_ediv_of_mul_le hp (by omega)
    omega
  · unfold PySem.Builtin.Str.tooLong
    simp only [decide_eq_false_iff_not]
    have := sizeLine_eq
    omega
  · by_cases hn : n < 1
    · rw [if_pos hn]
      have e : n.toNat = 0 := by omega
      have e2 : repS a n.toNat = Str.empty := by rw [e]; rfl
      exact ⟨by decide, by rw [← e2]; exact done _⟩
    · rw [if_neg hn]
      by_cases hb : (n == 1 || a.length == 0) = true
      · rw [if_pos hb]
        have e2 : repS a n.toNat = a := by
          rcases Bool.or_eq_true_iff.mp hb with e | e
          · have : n = 1 := by simpa using e
            subst this
            unfold repS; simp
          · have e' : a.cps.size = 0 := by simpa [Str.length] using e
            have e3 : a.cps = #[] := Array.eq_empty_of_size_eq_zero e'
            unfold repS
            cases a
            simp only at e3
            subst e3
            simp
        show EP X pins σ Q (.str a t) s
        rw [e2] at q
        exact ⟨.str _, H, I, ⟨_, rfl⟩, q⟩
      · rw [if_neg hb]
        have e2 : (⟨(List.replicate n.toNat a.cps).foldl (· ++ ·) #[]⟩ : Str) = repS a n.toNat := by
          rw [fold_rep]
          unfold repS
          congr 1
          simp
        rw [e2]
        refine ⟨?_, done _⟩
        have := flat_len a.cps.toList n.toNat
        have e4 : (repS a n.toNat).length = n.toNat * a.length := by simp [repS, Str.length, flat_len]
        have := sizeLine_eq
        have e5 : n.toNat * a.length = a.length * n.toNat := Nat.mul_comm _ _
        omega
def rMulU : R2 := fun x y H Q => rI CMulW (fun i j => .int (i * j)) x y H Q ∨ (rMulS x y H Q ∨ rRep x y H Q)
theorem op_mulU {X : Cx} : OpR X (binaryOp .Mult) rMulU := op_mulW.or (op_mulS.or op_rep)
theorem opd_mul : OpD G rMulU mulF := by
  intro B H x y dx dy ok hx hy Qd Q hQ hm
  cases hx with
  | int i =>
    cases hy with
    | int j => exact .inl ⟨i, j, rfl, rfl, hm.1, hQ _ _ H hm.2 (Bx.refl _ _) (.int _)⟩
    | _ => exact (show False from hm).elim
  | str i =>
    cases hy with
    | int j => exact .inr (.inl ⟨i, j, rfl, rfl, hm.1, hQ _ _ H hm.2 (Bx.refl _ _) (.str _)⟩)
    | _ => exact (show False from hm).elim
  | lst h1 n1 s1 =>
    cases hy with
    | int j =>
      obtain ⟨⟨h0, hj, hl⟩, q⟩ := hm
      refine .inr (.inr ⟨_, j, _, rfl, rfl, h1, by omega, by omega, ?_, fun p hp => hQ _ _ _ q (Bx.new hp) (dt_newL ok hp (s1.rep _))⟩)
      have e1 : j.toNat ≤ 10000 := by omega
      have e2 := s1.length
      rw [sizeLine_eq]
      calc _ ≤ 1000 * 10000 := Nat.mul_le_mul (by omega) e1
        _ ≤ 16777216 := by decide
    | _ => exact (show False from hm).elim
  | _ => exact (show False from hm).elim

/-! ### comparisons -/
def ltF (x y : D) (Q : D → Prop) : Prop := match x, y with
  | .int i, .int j => Q (.bl (decide (i < j)))
  | _, _ => False
def leF (x y : D) (Q : D → Prop) : Prop := match x, y with
  | .int i, .int j => Q (.bl (decide (i ≤ j)))
  | _, _ => False
def gtF (x y : D) (Q : D → Prop) : Prop := match x, y with
  | .int i, .int j => Q (.bl (decide (j < i)))
  | _, _ => False
def geF (x y : D) (Q : D → Prop) : Prop := match x, y with
  | .int i, .int j => Q (.bl (decide (j ≤ i)))
  | _, _ => False
theorem opd_lt : OpD G (rI0 fun i j => .bl (decide (i < j))) ltF := opd_i0 fun dx dy Qd h => by
  cases dx <;> cases dy <;> first
    | exact ⟨_, _, _, rfl, rfl, fun _ _ => .bl _, h⟩
    | exact (show False from h).elim
theorem opd_le : OpD G (rI0 fun i j => .bl (decide (i ≤ j))) leF := opd_i0 fun dx dy Qd h => by
  cases dx <;> cases dy <;> first
    | exact ⟨_, _, _, rfl, rfl, fun _ _ => .bl _, h⟩
    | exact (show False from h).elim
theorem opd_gt : OpD G (rI0 fun i j => .bl (decide (j < i))) gtF := opd_i0 fun dx dy Qd h => by
  cases dx <;> cases dy <;> first
    | exact ⟨_, _, _, rfl, rfl, fun _ _ => .bl _, h⟩
    | exact (show False from h).elim
theorem opd_ge : OpD G (rI0 fun i j => .bl (decide (j ≤ i))) geF := opd_i0 fun dx dy Qd h => by
  cases dx <;> cases dy <;> first
    | exact ⟨_, _, _, rfl, rfl, fun _ _ => .bl _, h⟩
    | exact (show False from h).elim
/-- a sign in a text -/
def rInC : R2 := fun x y H Q => ∃ (c : Nat) (z : Str), x = .str ⟨#[c]⟩ ∧ y = .str z ∧ Q (.bl (decide (c ∈ z.cps.toList))) H
def rNiC : R2 := fun x y H Q => ∃ (c : Nat) (z : Str), x = .str ⟨#[c]⟩ ∧ y = .str z ∧ Q (.bl (!decide (c ∈ z.cps.toList))) H
theorem op_inC {X : Cx} : OpR X (compareOp .In) rInC := op_in_sign
theorem op_niC {X : Cx} : OpR X (compareOp .NotIn) rNiC := op_notIn_sign
def inCF (x y : D) (Q : D → Prop) : Prop := ∃ (c : Nat) (z : Str), x = .str ⟨#[c]⟩ ∧ y = .str z ∧ Q (.bl (decide (c ∈ z.cps.toList)))
def niCF (x y : D) (Q : D → Prop) : Prop := ∃ (c : Nat) (z : Str), x = .str ⟨#[c]⟩ ∧ y = .str z ∧ Q (.bl (!decide (c ∈ z.cps.toList)))
theorem opd_inC : OpD G rInC inCF := by
  intro B H x y dx dy ok hx hy Qd Q hQ hm
  obtain ⟨c, z, rfl, rfl, q⟩ := hm
  cases hx; cases hy
  exact ⟨c, z, rfl, rfl, hQ _ _ H q (Bx.refl _ _) (.bl _)⟩
theorem opd_niC : OpD G rNiC niCF := by
  intro B H x y dx dy ok hx hy Qd Q hQ hm
  obtain ⟨c, z, rfl, rfl, q⟩ := hm
  cases hx; cases hy
  exact ⟨c, z, rfl, rfl, hQ _ _ H q (Bx.refl _ _) (.bl _)⟩
/-- is None, is True -/
def isNone : D → Bool
  | .non => true
  | _ => false
def isF (x y : D) (Q : D → Prop) : Prop := match y with
  | .non => Q (.bl (isNone x))
  | .bl b => (match x with
    | .bl a => Q (.bl (decide (a = b)))
    | _ => False)
  | _ => False
def notF (x y : D) (Q : D → Prop) : Prop := match y with
  | .non => Q (.bl (!isNone x))
  | .bl b => (match x with
    | .bl a => Q (.bl (!decide (a = b)))
    | _ => False)
  | _ => False
def rIsU : R2 := fun x y H Q => rIsN x y H Q ∨ rIsB x y H Q
def rNotU : R2 := fun x y H Q => rNotN x y H Q ∨ rNotB x y H Q
theorem op_isU {X : Cx} : OpR X (compareOp .Is) rIsU := op_isN1.or op_isBl
theorem op_notU {X : Cx} : OpR X (compareOp .IsNot) rNotU := op_notN1.or op_notBl
theorem isNone_dt {B H} {v : V} {d : D} (h : Dt G B H v d) : decide (v = .non) = isNone d := by
  cases h <;> simp [isNone]
theorem opd_is : OpD G rIsU isF := by
  intro B H x y dx dy ok hx hy Qd Q hQ hm
  cases hy with
  | non => exact .inl ⟨rfl, by rw [isNone_dt hx]; exact hQ _ _ H hm (Bx.refl _ _) (.bl _)⟩
  | bl b =>
    cases hx with
    | bl a => exact .inr ⟨a, b, rfl, rfl, hQ _ _ H hm (Bx.refl _ _) (.bl _)⟩
    | _ => exact (show False from hm).elim
  | _ => exact (show False from hm).elim
theorem opd_not : OpD G rNotU notF := by
  intro B H x y dx dy ok hx hy Qd Q hQ hm
  cases hy with
  | non => exact .inl ⟨rfl, by rw [isNone_dt hx]; exact hQ _ _ H hm (Bx.refl _ _) (.bl _)⟩
  | bl b =>
    cases hx with
    | bl a => exact .inr ⟨a, b, rfl, rfl, hQ _ _ H hm (Bx.refl _ _) (.bl _)⟩
    | _ => exact (show False from hm).elim
  | _ => exact (show False from hm).elim

/-! ### items, slices -/
def someD {α : Type} (o : Option α) (Q : α → Prop) : Prop := match o with
  | some d => Q d
  | none => False
def ixF (x y : D) (Q : D → Prop) : Prop := match x, y with
  | .lst xs, .int i => someD (atI xs i) Q
  | .tup xs, .int i => someD (atI xs i) Q
  | .str z, .int i => z.length ≤ sizeLine ∧ someD (atI z.cps.toList i) fun c => Q (.str ⟨#[c]⟩)
  | _, _ => False
theorem Dts.atI {B H} {vs : List V} {ds : List D} {i : Int} {d : D} (h : Dts G B H vs ds) (e : L2.atI ds i = some d) : ∃ v, L2.atI vs i = some v ∧ Dt G B H v d := by
  unfold L2.atI at e ⊢
  rw [h.length]
  cases q : ixN ds.length i with
  | none => rw [q] at e; cases e
  | some j =>
    rw [q] at e
    exact h.get e
theorem someD_inv {α : Type} {o : Option α} {Q : α → Prop} (h : someD o Q) : ∃ d, o = some d ∧ Q d := by
  cases o with
  | none => exact (show False from h).elim
  | some d => exact ⟨d, rfl, h⟩
theorem opd_ix : OpD G (rIx G.K) ixF := by
  intro B H x y dx dy ok hx hy Qd Q hQ hm
  cases hx with
  | lst h1 n1 s1 =>
    cases hy with
    | int i =>
      obtain ⟨d, e, q⟩ := someD_inv hm
      obtain ⟨v, e1, hv⟩ := s1.atI e
      exact .inl ⟨_, _, i, v, rfl, rfl, .inl (.inl h1), e1, hQ _ _ H q (Bx.refl _ _) hv⟩
    | _ => exact (show False from hm).elim
  | tup h1 s1 =>
    cases hy with
    | int i =>
      obtain ⟨d, e, q⟩ := someD_inv hm
      obtain ⟨v, e1, hv⟩ := s1.atI e
      exact .inr (.inl ⟨_, _, i, v, rfl, rfl, h1.sq, e1, hQ _ _ H q (Bx.refl _ _) hv⟩)
    | _ => exact (show False from hm).elim
  | str z =>
    cases hy with
    | int i =>
      obtain ⟨c, e, q⟩ := someD_inv hm.2
      exact .inr (.inr ⟨z, i, c, rfl, rfl, hm.1, e, hQ _ _ H q (Bx.refl _ _) (.str _)⟩)
    | _ => exact (show False from hm).elim
  | _ => exact (show False from hm).elim
def cutD (xs : List D) (lo hi : Option Int) : List D := (xs.drop (HT.sIx xs.length 0 lo)).take (HT.sIx xs.length xs.length hi - HT.sIx xs.length 0 lo)
def slF (x : D) (lo hi : Option Int) (Q : D → Prop) : Prop := match x with
  | .lst xs => Q (.lst (cutD xs lo hi))
  | .tup xs => Q (.tup (cutD xs lo hi))
  | .str z => z.length ≤ sizeLine ∧ Q (.str (Txt.slice z lo hi))
  | _ => False
def rSlU (K : PySem.W.Frag) : V → Option Int → Option Int → Hp → VK → Prop := fun x lo hi H Q => rSlL K x lo hi H Q ∨ (rSlA K x lo hi H Q ∨ C8.rSlX x lo hi H Q)
theorem sl_U {X : Cx} : SlR X (rSlU X.K) := sl_list.or (sl_tupA.or C8.sl_txt)
theorem Dts.cut {B H} {vs : List V} {ds : List D} (h : Dts G B H vs ds) (lo hi : Option Int) : Dts G B H (cutV vs lo hi) (cutD ds lo hi) := by
  unfold cutV cutD
  rw [h.length]
  exact (h.drop _).take _
theorem sld_U : SlD G (rSlU G.K) slF := by
  intro B H x dx lo hi ok hx Qd Q hQ hm
  cases hx with
  | lst h1 n1 s1 => exact .inl ⟨_, _, rfl, .inl (.inl h1), fun p hp => hQ _ _ _ hm (Bx.new hp) (dt_newL ok hp (s1.cut lo hi))⟩
  | tup h1 s1 =>
    refine .inr (.inl ⟨_, _, rfl, h1.sq, fun e => ?_, fun _ p hp => hQ _ _ _ hm (Bx.new hp) (dt_newT ok hp (s1.cut lo hi))⟩)
    refine hQ _ _ H hm (Bx.refl _ _) ?_
    rw [s1.length] at e
    have e2 : ∀ ds : List D, HT.sIx ds.length 0 lo = 0 ∧ HT.sIx ds.length ds.length hi = ds.length → cutD ds lo hi = ds := fun ds e => by
      unfold cutD
      rw [e.1, e.2]; simp
    rw [e2 _ e]
    exact .tup h1 s1
  | str z => exact .inr (.inr ⟨z, rfl, hm.1, hQ _ _ H hm.2 (Bx.refl _ _) (.str _)⟩)
  | _ => exact (show False from hm).elim

/-! ### built-in functions -/
theorem Dts.one {B H} {vs : List V} {d : D} (h : Dts G B H vs [d]) : ∃ v, vs = [v] ∧ Dt G B H v d := by
  cases h with
  | cons a t => cases t; exact ⟨_, rfl, a⟩
theorem Dts.two {B H} {vs : List V} {d e : D} (h : Dts G B H vs [d, e]) : ∃ v w, vs = [v, w] ∧ Dt G B H v d ∧ Dt G B H w e := by
  cases h with
  | cons a t =>
    obtain ⟨w, rfl, hw⟩ := t.one
    exact ⟨_, w, rfl, a, hw⟩
def lenF (ds : List D) (Q : D → Prop) : Prop := match ds with
  | [.lst xs] => Q (.int xs.length)
  | [.tup xs] => Q (.int xs.length)
  | [.str z] => z.length ≤ sizeLine ∧ Q (.int z.length)
  | _ => False
def rLenQ (K : PySem.W.Frag) : List V → Hp → VK → Prop := fun xs H Q => ∃ p ys, xs = [.ref p] ∧ (SqL K H p ys ∨ SqT K H p ys) ∧ Q (.int ys.length) H
def rLenZ : List V → Hp → VK → Prop := fun xs H Q => ∃ z, xs = [.str z] ∧ z.length ≤ sizeLine ∧ Q (.int z.length) H
def rLenU (K : PySem.W.Frag) : List V → Hp → VK → Prop := fun xs H Q => rLenQ K xs H Q ∨ rLenZ xs H Q
theorem call_lenU {X : Cx} : CallR X (.builtin "len") (rLenU X.K) := CallR.or (r := rLenQ X.K) (r' := rLenZ) call_len_seq call_len_str
theorem calld_len : CallD G (rLenU G.K) lenF := by
  intro B H x dx ok hx Qd Q hQ hm
  unfold lenF at hm
  split at hm
  · obtain ⟨v, rfl, hv⟩ := hx.one
    cases hv with
    | lst h1 n1 s1 => exact .inl ⟨_, _, rfl, .inl (.inl (.inl h1)), by rw [s1.length]; exact hQ _ _ H hm (Bx.refl _ _) (.int _)⟩
  · obtain ⟨v, rfl, hv⟩ := hx.one
    cases hv with
    | tup h1 s1 => exact .inl ⟨_, _, rfl, .inr h1.sq, by rw [s1.length]; exact hQ _ _ H hm (Bx.refl _ _) (.int _)⟩
  · obtain ⟨v, rfl, hv⟩ := hx.one
    cases hv with
    | str z => exact .inr ⟨_, rfl, hm.1, hQ _ _ H hm.2 (Bx.refl _ _) (.int _)⟩
  · exact hm.elim
def intF (ds : List D) (Q : D → Prop) : Prop := match ds with
  | [.int i] => Q (.int i)
  | [.bl b] => Q (.int (if b then 1 else 0))
  | _ => False
def rInt1 : List V → Hp → VK → Prop := fun xs H Q => (∃ i, xs = [.int i] ∧ Q (.int i) H) ∨ ∃ k, xs = [.bl k] ∧ Q (.int (if k then 1 else 0)) H
theorem call_int1' {X : Cx} : CallR X (.type "int") rInt1 := call_int1
theorem calld_int : CallD G rInt1 intF := by
  intro B H x dx ok hx Qd Q hQ hm
  unfold intF at hm
  split at hm
  · obtain ⟨v, rfl, hv⟩ := hx.one
    cases hv
    exact .inl ⟨_, rfl, hQ _ _ H hm (Bx.refl _ _) (.int _)⟩
  · obtain ⟨v, rfl, hv⟩ := hx.one
    cases hv
    exact .inr ⟨_, rfl, hQ _ _ H hm (Bx.refl _ _) (.int _)⟩
  · exact hm.elim
def tupF (ds : List D) (Q : D → Prop) : Prop := match ds with
  | [.lst xs] => Q (.tup xs)
  | [.tup xs] => Q (.tup xs)
  | _ => False
def rTupU (K : PySem.W.Frag) : List V → Hp → VK → Prop := fun xs H Q => ∃ p ys, xs = [.ref p] ∧ ((SqL K H p ys ∧ ∀ l, H l = none → Q (.ref l) (upd H l (.tup ys))) ∨ (SqT K H p ys ∧ Q (.ref p) H))
theorem call_tupU {X : Cx} : CallR X (.type "tuple") (rTupU X.K) := call_tuple_of
theorem calld_tup : CallD G (rTupU G.K) tupF := by
  intro B H x dx ok hx Qd Q hQ hm
  unfold tupF at hm
  split at hm
  · obtain ⟨v, rfl, hv⟩ := hx.one
    cases hv with
    | lst h1 n1 s1 => exact ⟨_, _, rfl, .inl ⟨.inl (.inl h1), fun p hp => hQ _ _ _ hm (Bx.new hp) (dt_newT ok hp s1)⟩⟩
  · obtain ⟨v, rfl, hv⟩ := hx.one
    cases hv with
    | tup h1 s1 => exact ⟨_, _, rfl, .inr ⟨h1.sq, hQ _ _ H hm (Bx.refl _ _) (.tup h1 s1)⟩⟩
  · exact hm.elim
def lstF (ds : List D) (Q : D → Prop) : Prop := match ds with
  | [.lst xs] => Q (.lst xs)
  | [.tup xs] => Q (.lst xs)
  | _ => False
def rLstU (K : PySem.W.Frag) : List V → Hp → VK → Prop := fun xs H Q => ∃ p ys, xs = [.ref p] ∧ (SqL K H p ys ∨ SqT K H p ys) ∧ ∀ l, H l = none → Q (.ref l) (upd H l (.lst ys))
theorem call_lstU {X : Cx} : CallR X (.type "list") (rLstU X.K) := call_list_of
theorem calld_lst : CallD G (rLstU G.K) lstF := by
  intro B H x dx ok hx Qd Q hQ hm
  unfold lstF at hm
  split at hm
  · obtain ⟨v, rfl, hv⟩ := hx.one
    cases hv with
    | lst h1 n1 s1 => exact ⟨_, _, rfl, .inl (.inl (.inl h1)), fun p hp => hQ _ _ _ hm (Bx.new hp) (dt_newL ok hp s1)⟩
  · obtain ⟨v, rfl, hv⟩ := hx.one
    cases hv with
    | tup h1 s1 => exact ⟨_, _, rfl, .inr h1.sq, fun p hp => hQ _ _ _ hm (Bx.new hp) (dt_newL ok hp s1)⟩
  · exact hm.elim
/-- all, any of a list of truths -/
def blsOf : List D → Option (List Bool)
  | [] => some []
  | .bl b :: r => (blsOf r).map (b :: ·)
  | _ => none
theorem blsOf_inv : ∀ {ds : List D} {bs : List Bool}, blsOf ds = some bs → ds = bs.map D.bl
  | [], bs, h => by cases h; rfl
  | d :: ds, bs, h => by
    cases d with
    | bl b =>
      unfold blsOf at h
      cases e : blsOf ds with
      | none => rw [e] at h; cases h
      | some cs =>
        rw [e] at h
        have h' : b :: cs = bs := Option.some.inj h
        subst h'
        rw [blsOf_inv e]; rfl
    | _ => cases h
theorem blsOf_map (bs : List Bool) : blsOf (bs.map D.bl) = some bs := by
  induction bs with
  | nil => rfl
  | cons b bs ih => show (blsOf (bs.map D.bl)).map (b :: ·) = _; rw [ih]; rfl
def allF (ds : List D) (Q : D → Prop) : Prop := match ds with
  | [.lst xs] => someD (blsOf xs) fun bs => Q (.bl (bs.all id))
  | _ => False
def anyF (ds : List D) (Q : D → Prop) : Prop := match ds with
  | [.lst xs] => someD (blsOf xs) fun bs => Q (.bl (bs.any id))
  | _ => False
theorem calld_all : CallD G (rAll G.K) allF := by
  intro B H x dx ok hx Qd Q hQ hm
  unfold allF at hm
  split at hm
  · obtain ⟨v, rfl, hv⟩ := hx.one
    obtain ⟨bs, e, q⟩ := someD_inv hm
    cases hv with
    | lst h1 n1 s1 =>
      rw [blsOf_inv e] at s1
      have e2 := s1.bls
      subst e2
      exact ⟨_, bs, rfl, .inl (.inl h1), hQ _ _ H q (Bx.refl _ _) (.bl _)⟩
  · exact hm.elim
theorem calld_any : CallD G (rAny G.K) anyF := by
  intro B H x dx ok hx Qd Q hQ hm
  unfold anyF at hm
  split at hm
  · obtain ⟨v, rfl, hv⟩ := hx.one
    obtain ⟨bs, e, q⟩ := someD_inv hm
    cases hv with
    | lst h1 n1 s1 =>
      rw [blsOf_inv e] at s1
      have e2 := s1.bls
      subst e2
      exact ⟨_, bs, rfl, .inl (.inl h1), hQ _ _ H q (Bx.refl _ _) (.bl _)⟩
  · exact hm.elim
/-- isinstance of built-in kinds -/
def tyN : D → Option String
  | .non => some "NoneType"
  | .bl _ => some "bool"
  | .int _ => some "int"
  | .str _ => some "str"
  | .tup _ => some "tuple"
  | .lst _ => some "list"
  | .dic _ => some "dict"
  | _ => none
theorem tyX_of {B H} {v : V} {d : D} {n : String} (h : Dt G B H v d) (e : tyN d = some n) : TyX G.K H v (.type n) := by
  cases h with
  | non => cases e; exact .base .non
  | bl b => cases e; exact .base (.bl b)
  | int b => cases e; exact .base (.int b)
  | str b => cases e; exact .base (.str b)
  | tup h1 s1 =>
    cases e
    rcases h1 with ⟨h1, _⟩ | h1
    · exact .base (.tup h1)
    · rcases h1 with (h1 | ⟨_, h1⟩) | ⟨o, its, m, h1, h2, _⟩
      · cases h1
      · cases h1
      · exact .kTuple h1 h2
  | lst h1 n1 s1 => cases e; exact .base (.lst h1)
  | dic h1 n1 s1 => cases e; exact .base (.dK h1)
  | _ => cases e
def isiF (ds : List D) (Q : D → Prop) : Prop := match ds with
  | [d, .ty n] => someD (tyN d) fun m => someD (kitB m n) fun b => Q (.bl b)
  | _ => False
theorem calld_isi : CallD G (rIsi G.K) isiF := by
  intro B H x dx ok hx Qd Q hQ hm
  unfold isiF at hm
  split at hm
  · obtain ⟨v, w, rfl, hv, hw⟩ := hx.two
    obtain ⟨m, e, q⟩ := someD_inv hm
    obtain ⟨b, e2, q⟩ := someD_inv q
    cases hw
    exact ⟨v, _, _, _, b, rfl, .ty _, tyX_of hv e, kit_ty e2, hQ _ _ H q (Bx.refl _ _) (.bl _)⟩
  · exact hm.elim
/-- texts -/
def strsOf : List D → Option (List Str)
  | [] => some []
  | .str b :: r => (strsOf r).map (b :: ·)
  | _ => none
theorem strsOf_inv : ∀ {ds : List D} {bs : List Str}, strsOf ds = some bs → ds = bs.map D.str
  | [], bs, h => by cases h; rfl
  | d :: ds, bs, h => by
    cases d with
    | str b =>
      unfold strsOf at h
      cases e : strsOf ds with
      | none => rw [e] at h; cases h
      | some cs =>
        rw [e] at h
        have h' : b :: cs = bs := Option.some.inj h
        subst h'
        rw [strsOf_inv e]; rfl
    | _ => cases h
theorem strsOf_map (bs : List Str) : strsOf (bs.map D.str) = some bs := by
  induction bs with
  | nil => rfl
  | cons b bs ih => show (strsOf (bs.map D.str)).map (b :: ·) = _; rw [ih]; rfl
def joinF (x y : D) (Q : D → Prop) : Prop := match x, y with
  | .str a, .lst ds => someD (strsOf ds) fun ys => (ys.map (·.length)).sum + ys.length * a.length ≤ 16777216 ∧ Q (.str (Txt.join a ys))
  | _, _ => False
def rJoin (K : PySem.W.Frag) : V → List V → Hp → VK → Prop := fun x xs H Q => ∃ a p, ∃ ys : List Str, x = .str a ∧ xs = [.ref p] ∧ (SqL K H p (ys.map V.str) ∨ SqT K H p (ys.map V.str)) ∧
    (ys.map (·.length)).sum + ys.length * a.length ≤ 16777216 ∧ Q (.str (Txt.join a ys)) H
theorem opd_join : OpD G (fun x y H Q => rJoin G.K x [y] H Q) joinF := by
  intro B H x y dx dy ok hx hy Qd Q hQ hm
  unfold joinF at hm
  split at hm
  · obtain ⟨ys, e, hz, q⟩ := someD_inv hm
    cases hx
    cases hy with
    | lst h1 n1 s1 =>
      rw [strsOf_inv e] at s1
      have e2 := s1.strs
      subst e2
      exact ⟨_, _, ys, rfl, rfl, .inl (.inl (.inl h1)), hz, hQ _ _ H q (Bx.refl _ _) (.str _)⟩
  · exact hm.elim
def splitF (x y : D) (Q : D → Prop) : Prop := match x, y with
  | .str a, .str b => (b.length == 0) = false ∧ a.length + 2 ≤ sizeLine ∧ Q (.lst ((Txt.split a b).map D.str))
  | _, _ => False
def rSplit : V → List V → Hp → VK → Prop := fun x xs H Q => ∃ a b, x = .str a ∧ xs = [.str b] ∧ (b.length == 0) = false ∧ a.length + 2 ≤ sizeLine ∧ rNewStrs (Txt.split a b) H Q
theorem opd_split : OpD G (fun x y H Q => rSplit x [y] H Q) splitF := by
  intro B H x y dx dy ok hx hy Qd Q hQ hm
  unfold splitF at hm
  split at hm
  · cases hx
    cases hy
    exact ⟨_, _, rfl, rfl, hm.1, hm.2.1, fun p hp => hQ _ _ _ hm.2.2 (Bx.new hp) (dt_newL ok hp (Dts.ofStrs _))⟩
  · exact hm.elim
/-- -i -/
def negF (x : D) (Q : D → Prop) : Prop := match x with
  | .int i => Q (.int (-i))
  | _ => False
theorem und_neg : UnD G (rU fun i => .int (-i)) negF := by
  intro B H x dx ok hx Qd Q hQ hm
  cases hx with
  | int i => exact ⟨i, rfl, hQ _ _ H hm (Bx.refl _ _) (.int _)⟩
  | _ => exact (show False from hm).elim
def absF (ds : List D) (Q : D → Prop) : Prop := match ds with
  | [.int i] => Q (.int (if i < 0 then -i else i))
  | _ => False
def rAbs : List V → Hp → VK → Prop := fun xs H Q => ∃ i, xs = [.int i] ∧ Q (.int (if i < 0 then -i else i)) H
theorem calld_abs : CallD G rAbs absF := by
  intro B H x dx ok hx Qd Q hQ hm
  unfold absF at hm
  split at hm
  · obtain ⟨v, rfl, hv⟩ := hx.one
    cases hv
    exact ⟨_, rfl, hQ _ _ H hm (Bx.refl _ _) (.int _)⟩
  · exact hm.elim

/-! ### repr -/
def rRepr (K : PySem.W.Frag) : List V → Hp → VK → Prop := fun xs H Q => ∃ (x : V) (d : PyData), xs = [x] ∧ Dp K H x d ∧ d.showable = true ∧ d.depth ≤ 60 ∧ d.shown.length ≤ sizeLine ∧ Q (.str d.shown) H
theorem Dp.noDict {K H} : ∀ (d : PyData) (v : V), Dp K H v d → d.hasDict = false := fun d v h => by
  have : ∀ n, ∀ (d : PyData) (v : V), sizeOf d ≤ n → Dp K H v d → d.hasDict = false := by
    intro n
    induction n with
    | zero => intro d v hz; cases d <;> simp at hz
    | succ n ih =>
      intro d v hz h
      have all : ∀ (ds : List PyData) (vs : List V), sizeOf ds ≤ n → DpAll K H vs ds → PyData.hasDictAll ds = false := by
        intro ds
        induction ds with
        | nil => intro vs _ _; rfl
        | cons e es ih2 =>
          intro vs hz2 h2
          cases h2 with
          | cons a t =>
            simp only [List.cons.sizeOf_spec] at hz2
            simp only [PyData.hasDictAll, ih e _ (by omega) a, ih2 _ (by omega) t, Bool.or_self]
      cases h with
      | non => rfl
      | bl b => rfl
      | int b => rfl
      | str b => rfl
      | lst h1 h2 => simp only [PyData.list.sizeOf_spec] at hz; simp only [PyData.hasDict]; exact all _ _ (by omega) h2
      | tup h1 h2 => simp only [PyData.tuple.sizeOf_spec] at hz; simp only [PyData.hasDict]; exact all _ _ (by omega) h2
  exact this _ d v (Nat.le_refl _) h
theorem call_repr {X : Cx} {k : Nat} (hg : X.A.guards = some []) (hr : Room k X.A) : CallR X (.builtin "repr") (rRepr X.K) := by
  intro pins s σ H xs us Q I r h
  obtain ⟨x, d, rfl, hd, hs, hdep, hz, q⟩ := h
  obtain ⟨u, rfl, ru⟩ := Vals.one r
  obtain ⟨as, hr'⟩ := Dp.reads I d x u hd ru
  have hnd := Dp.noDict d x hd
  have hu : X.A.units + (d.depth + 1) < cLine := by have := hr.units; omega
  have fin : ∀ t tk, EP X pins σ Q (.str d.shown t) { s with toks := tk } := fun t tk => ⟨.str _, H, I.tok _, ⟨_, rfl⟩, q⟩
  cases hd with
  | non => cases ru; exact PySem.P.repr_of_none (by simpa [PyData.shown] using fin _ _)
  | bl b => cases ru; exact PySem.P.repr_of_bool (by simpa [PyData.shown] using fin _ _)
  | int i => obtain ⟨t, rfl⟩ := ru; exact PySem.P.repr_of_int (by simpa [PyData.showable] using hs) (by simpa [PyData.shown] using fin _ _)
  | str z => obtain ⟨t, rfl⟩ := ru; exact PySem.P.repr_of_str (by simpa [PyData.shown] using fin _ _) (by simpa [PyData.shown] using hz)
  | lst h1 h2 =>
    cases ru
    refine repr_of_reads' hr' hs (fun e => by rw [hnd] at e; cases e) hg hu (fun _ _ e => e) (fun h' t tk hk => ?_) hz
    exact ⟨.str _, H, I.kept hk, ⟨_, rfl⟩, q⟩
  | tup h1 h2 =>
    cases ru
    refine repr_of_reads' hr' hs (fun e => by rw [hnd] at e; cases e) hg hu (fun _ _ e => e) (fun h' t tk hk => ?_) hz
    exact ⟨.str _, H, I.kept hk, ⟨_, rfl⟩, q⟩
def reprF (ds : List D) (Q : D → Prop) : Prop := match ds with
  | [d] => (d.pl = true ∧ d.py.showable = true ∧ d.py.depth ≤ 60 ∧ d.py.shown.length ≤ sizeLine) ∧ Q (.str d.py.shown)
  | _ => False
theorem calld_repr : CallD G (rRepr G.K) reprF := by
  intro B H x dx ok hx Qd Q hQ hm
  unfold reprF at hm
  split at hm
  · obtain ⟨v, rfl, hv⟩ := hx.one
    obtain ⟨⟨h1, h2, h3, h4⟩, q⟩ := hm
    exact ⟨v, _, rfl, hv.dp h1, h2, h3, h4, hQ _ _ H q (Bx.refl _ _) (.str _)⟩
  · exact hm.elim
end
end Dz

namespace Dz
open PySem PySem.Spec PyProof.Rows L2

/-! ### statements -/
/-- what is wanted behind a statement, on data -/
structure Ed where
  nx : Rho → Prop
  rt : D → Prop
  bk : Rho → Prop := fun _ => False
  ct : Rho → Prop := fun _ => False
abbrev MS := Ed → Rho → Prop
def OwnNew (B0 : List Addr) (H0 : Hp) (σ : L2.St) (ρ : Rho) : Prop := ∀ (i : Nat) (ds : List D) (a : Addr), ρ[i]? = some (Slot.own ds) → σ[i]? = some (some (V.ref a)) → H0 a = none ∧ a ∉ B0
/-- H0, B0: the heap and the places that may change, at the def's entry -/
structure Sg (G : Ga) (B0 : List Addr) (H0 : Hp) (B : List Addr) (H : Hp) (σ : L2.St) (ρ : Rho) : Prop where
  sta : Sta G B H σ ρ
  bx : Bx G.c H0 H
  up : ∀ a ∈ B0, a ∈ B
  fr : ∀ a ∈ B, a ∈ B0 ∨ H0 a = none
  own : OwnNew B0 H0 σ ρ
  bg : ∀ b, G.b = some b → b ∈ B0
structure Cov (G : Ga) (B0 : List Addr) (H0 : Hp) (B : List Addr) (H : Hp) (Z : Ed) (E : Ends) : Prop where
  nx : ∀ ρ σ B' H', Z.nx ρ → Sg G B0 H0 B' H' σ ρ → Tr B H B' H' → E.nx σ H'
  rt : ∀ d v H', Z.rt d → Bx G.c H0 H' → Ok G B0 H' → Dt G B0 H' v d → E.rt v H'
  bk : ∀ ρ σ B' H', Z.bk ρ → Sg G B0 H0 B' H' σ ρ → Tr B H B' H' → E.bk σ H'
  ct : ∀ ρ σ B' H', Z.ct ρ → Sg G B0 H0 B' H' σ ρ → Tr B H B' H' → E.ct σ H'
def EvS (G : Ga) (ts : TS) (ms : MS) : Prop := ∀ (B0 : List Addr) (H0 : Hp) (B : List Addr) (H : Hp) (σ : L2.St) (ρ : Rho), Sg G B0 H0 B H σ ρ → ∀ (Z : Ed) (E : Ends), Cov G B0 H0 B H Z E → ms Z ρ → ts E σ H
theorem Tr.refl (B : List Addr) (H : Hp) : Tr B H B H := fun _ _ n e => ⟨n, e⟩
theorem Tr.trans {B B1 B2 : List Addr} {H H1 H2 : Hp} (a : Tr B H B1 H1) (b : Tr B1 H1 B2 H2) : Tr B H B2 H2 := fun x o n e => let ⟨n1, e1⟩ := a x o n e; b x o n1 e1
theorem tr_of {C B : List Addr} {H H' : Hp} (k : Bx C H H') (s : ∀ a ∈ C, a ∈ B) : Tr B H B H' := fun a o n e => ⟨n, k a o (fun z => n (s a z)) e⟩
section
variable {G : Ga} {B0 B B1 : List Addr} {H0 H H' H1 : Hp} {σ : L2.St} {ρ : Rho} {te : TE} {me : ME} {tt : TT} {mt : MT} {t u : TS} {ms mu : MS} {Z : Ed} {E : Ends}
theorem Cov.from (C : Cov G B0 H0 B H Z E) (k : Tr B H B1 H1) : Cov G B0 H0 B1 H1 Z E :=
  ⟨fun ρ σ B' H' z s t => C.nx ρ σ B' H' z s (k.trans t), C.rt, fun ρ σ B' H' z s t => C.bk ρ σ B' H' z s (k.trans t), fun ρ σ B' H' z s t => C.ct ρ σ B' H' z s (k.trans t)⟩
theorem Sg.step (h : Sg G B0 H0 B H σ ρ) (k : Bx G.c H H') (ok : Ok G B H') : Sg G B0 H0 B H' σ ρ ∧ Tr B H B H' :=
  ⟨⟨h.sta.bx k ok, h.bx.trans k, h.up, h.fr, h.own, h.bg⟩, tr_of k h.sta.ok.sub⟩
theorem ok_less (h : Ok G B H) (h0 : ∀ a ∈ B0, a ∈ B) (hb : ∀ b, G.b = some b → b ∈ B0) : Ok G B0 H := by
  refine ⟨fun a ha => h.al a (h0 a ha), fun b e => ?_⟩
  obtain ⟨_, z, t, n, c, cells, h1, h2, h3, r⟩ := h.bg b e
  exact ⟨hb b e, z, t, n, c, cells, h1, h2, fun q => h3 (h0 c q), r⟩
def sNext : MS := fun Z ρ => Z.nx ρ
def sSeq (a b : MS) : MS := fun Z ρ => a { Z with nx := fun ρ' => b Z ρ' } ρ
def sBrk : MS := fun Z ρ => Z.bk ρ
def sCont : MS := fun Z ρ => Z.ct ρ
def sDrop (m : ME) : MS := fun Z ρ => m ρ fun _ => Z.nx ρ
def sIf (c : MT) (a b : MS) : MS := fun Z ρ => c ρ fun k => if k = true then a Z ρ else b Z ρ
def sAsg (m : ME) (g : MG) : MS := fun Z ρ => m ρ fun d => g d ρ Z.nx
def two (ds : List D) (Q : D → D → Prop) : Prop := match ds with
  | [d, e] => Q d e
  | _ => False
def sPar (i j : Nat) (m : MA) : MS := fun Z ρ => m ρ fun ds => two ds fun d e => Z.nx ((ρ.set i (.val d)).set j (.val e))
def sRet (m : ME) : MS := fun Z ρ => m ρ Z.rt
def sRetN : MS := fun Z _ => Z.rt .non
theorem evs_next : EvS G tNext sNext := fun B0 H0 B H σ ρ hS Z E C hm => C.nx _ _ _ _ hm hS (Tr.refl _ _)
theorem evs_seq (h1 : EvS G t ms) (h2 : EvS G u mu) : EvS G (tSeq t u) (sSeq ms mu) := by
  intro B0 H0 B H σ ρ hS Z E C hm
  exact h1 B0 H0 B H σ ρ hS { Z with nx := fun ρ' => mu Z ρ' } { E with nx := u E } ⟨fun ρ' σ' B' H' q hS' t => h2 B0 H0 B' H' σ' ρ' hS' Z E (C.from t) q, C.rt, C.bk, C.ct⟩ hm
theorem evs_brk : EvS G tBreak sBrk := fun B0 H0 B H σ ρ hS Z E C hm => C.bk _ _ _ _ hm hS (Tr.refl _ _)
theorem evs_cont : EvS G tCont sCont := fun B0 H0 B H σ ρ hS Z E C hm => C.ct _ _ _ _ hm hS (Tr.refl _ _)
theorem evs_drop (h : EvD G te me) : EvS G (tDrop te) (sDrop me) := by
  intro B0 H0 B H σ ρ hS Z E C hm
  exact h B H σ ρ hS.sta (fun _ => Z.nx ρ) _ (fun d v H1 q b1 ok1 _ => C.nx _ _ _ _ q (hS.step b1 ok1).1 (hS.step b1 ok1).2) hm
theorem evs_if (hc : EvT G tt mt) (h1 : EvS G t ms) (h2 : EvS G u mu) : EvS G (tIfS tt t u) (sIf mt ms mu) := by
  intro B0 H0 B H σ ρ hS Z E C hm
  refine hc B H σ ρ hS.sta (fun b => if b = true then ms Z ρ else mu Z ρ) _ (fun b H1 q b1 ok1 => ?_) hm
  obtain ⟨s1, t1⟩ := hS.step b1 ok1
  cases b with
  | true => exact h1 B0 H0 B H1 σ ρ s1 Z E (C.from t1) q
  | false => exact h2 B0 H0 B H1 σ ρ s1 Z E (C.from t1) q
theorem evs_asg {g : TG} {ws : List Nat} {mg : MG} (h : EvD G te me) (hg : EvG G g ws mg) : EvS G (tAsg te g) (sAsg me mg) := by
  intro B0 H0 B H σ ρ hS Z E C hm
  refine h B H σ ρ hS.sta (fun d => mg d ρ Z.nx) _ (fun d v H1 q b1 ok1 hd => ?_) hm
  obtain ⟨s1, t1⟩ := hS.step b1 ok1
  refine hg B H1 σ ρ s1.sta v d hd Z.nx _ (fun ρ' σ' q hS' hl hw ho => ?_) q
  refine C.nx _ _ _ _ q ⟨hS', s1.bx, hS.up, hS.fr, fun i ds a e1 e2 => ?_, hS.bg⟩ t1
  obtain ⟨e3, e4⟩ := ho i ds e1
  exact hS.own i ds a e3 (e4.symm.trans e2)
theorem evs_par {i j : Nat} {tA : TA} {mA : MA} (h : EvA G tA mA) : EvS G (tPar i j tA) (sPar i j mA) := by
  intro B0 H0 B H σ ρ hS Z E C hm
  refine h B H σ ρ hS.sta (fun ds => two ds fun d e => Z.nx ((ρ.set i (.val d)).set j (.val e))) _ (fun ds v H1 q b1 ok1 hd => ?_) hm
  obtain ⟨s1, t1⟩ := hS.step b1 ok1
  unfold two at q
  split at q
  · obtain ⟨v1, v2, rfl, hv1, hv2⟩ := hd.two
    refine ⟨v1, v2, rfl, C.nx _ _ _ _ q ⟨(s1.sta.set hv1).set hv2, s1.bx, hS.up, hS.fr, fun l ds a e1 e2 => ?_, hS.bg⟩ t1⟩
    obtain ⟨e3, e4⟩ := set_own (v := v2) (σ := σ.set i (some v1)) l ds e1
    obtain ⟨e5, e6⟩ := set_own (v := v1) (σ := σ) l ds e3
    exact hS.own l ds a e5 (e6.symm.trans (e4.symm.trans e2))
  · exact q.elim
theorem evs_ret (h : EvD G te me) : EvS G (tRet te) (sRet me) := by
  intro B0 H0 B H σ ρ hS Z E C hm
  refine h B H σ ρ hS.sta Z.rt _ (fun d v H1 q b1 ok1 hd => ?_) hm
  exact C.rt d v H1 q (hS.bx.trans b1) (ok_less ok1 hS.up hS.bg) (hd.less hS.up)
theorem evs_retN : EvS G tRetN sRetN := by
  intro B0 H0 B H σ ρ hS Z E C hm
  exact C.rt .non .non H hm hS.bx (ok_less hS.sta.ok hS.up hS.bg) .non
end

/-! ### for -/
def forM (mg : MG) (mb : MS) (Z : Ed) : List D → Rho → Prop
  | [], ρ => Z.nx ρ
  | d :: ds, ρ => mg d ρ fun ρ1 => mb { nx := fun ρ2 => forM mg mb Z ds ρ2, rt := Z.rt, bk := Z.nx, ct := fun ρ2 => forM mg mb Z ds ρ2 } ρ1
def sFor (mi : MA) (mg : MG) (mb : MS) : MS := fun Z ρ => mi ρ fun ds => forM mg mb Z ds ρ
section
variable {G : Ga}
theorem evs_for {wi : TI} {mi : MA} {g : TG} {ws : List Nat} {mg : MG} {tb : TS} {mb : MS} (hi : EvI G wi mi) (hg : EvG G g ws mg) (hb : EvS G tb mb) : EvS G (tFor wi g tb) (sFor mi mg mb) := by
  intro B0 H0 B H σ ρ hS Z E C hm
  refine hi B H σ ρ hS.sta (fun ds => forM mg mb Z ds ρ) _ (fun ds J H1 q b1 ok1 hJ => ?_) hm
  obtain ⟨s1, t1⟩ := hS.step b1 ok1
  refine ⟨fun i m σ' H' => i + m = ds.length ∧ ∃ B' ρ', Sg G B0 H0 B' H' σ' ρ' ∧ Tr B H1 B' H' ∧ forM mg mb Z (ds.drop i) ρ', ⟨ds.length, by omega, B, ρ, s1, Tr.refl _ _, q⟩, ?_⟩
  rintro i m σ' H' ⟨em, B', ρ', hS', hT, hf⟩
  obtain ⟨hstop, hgo⟩ := hJ B' H' hT hS'.sta.ok i
  by_cases hlt : i < ds.length
  · right
    have ed : ds[i]? = some ds[i] := List.getElem?_eq_getElem hlt
    obtain ⟨go, yl⟩ := hgo _ ed
    refine ⟨go, fun σ2 H2 => ∃ B2 ρ2, Sg G B0 H0 B2 H2 σ2 ρ2 ∧ Tr B H1 B2 H2 ∧ forM mg mb Z (ds.drop (i + 1)) ρ2, fun σ2 H2 h2 => ⟨m - 1, by omega, by omega, h2⟩, fun x H2 hy => ?_⟩
    obtain ⟨e2, hx⟩ := yl x H2 hy
    obtain ⟨s2, t2⟩ := hS'.step e2.nil (hS'.sta.ok.ex e2)
    rw [List.drop_eq_getElem_cons hlt] at hf
    refine hg B' H2 σ' ρ' s2.sta x _ hx _ _ (fun ρ1 σ1 q1 hS3 hl3 hw3 ho3 => ?_) hf
    have s3 : Sg G B0 H0 B' H2 σ1 ρ1 := ⟨hS3, s2.bx, s2.up, s2.fr, fun j ds' a e1 e2 => by
      obtain ⟨e3, e4⟩ := ho3 j ds' e1
      exact hS'.own j ds' a e3 (e4.symm.trans e2), s2.bg⟩
    have t3 : Tr B H1 B' H2 := hT.trans t2
    refine hb B0 H0 B' H2 σ1 ρ1 s3 { nx := fun ρ2 => forM mg mb Z (ds.drop (i + 1)) ρ2, rt := Z.rt, bk := Z.nx, ct := fun ρ2 => forM mg mb Z (ds.drop (i + 1)) ρ2 } _ ⟨fun ρ2 σ2 B2 H3 z s t => ⟨B2, ρ2, s, t3.trans t, z⟩, C.rt, fun ρ2 σ2 B2 H3 z s t => C.nx ρ2 σ2 B2 H3 z s ((t1.trans t3).trans t), fun ρ2 σ2 B2 H3 z s t => ⟨B2, ρ2, s, t3.trans t, z⟩⟩ q1
  · left
    have ei : i = ds.length := by omega
    rw [List.drop_eq_nil_of_le (by omega)] at hf
    exact ⟨hstop ei, C.nx ρ' σ' B' H' hf hS' (t1.trans hT)⟩
end

/-! ### a def's body from its mirror -/
/-- the arguments in their slots -/
def begin_ (n : Nat) (ds : List D) : Rho := ds.map Slot.val ++ List.replicate (n - ds.length) Slot.no
theorem begin_noOwn (n : Nat) (ds : List D) (i : Nat) (es : List D) : (begin_ n ds)[i]? ≠ some (Slot.own es) := fun e => by
  unfold begin_ at e
  rw [List.getElem?_append] at e
  split at e
  · rw [List.getElem?_map] at e
    cases q : ds[i]? with
    | none => rw [q] at e; cases e
    | some d => rw [q] at e; cases e
  · rw [List.getElem?_replicate] at e
    split at e <;> cases e
theorem begin_sta {G : Ga} {B : List Addr} {H : Hp} {N : List Str} {vs : List V} {ds : List D} (ok : Ok G B H) (h : Dts G B H vs ds) : Sta G B H (L2.start N vs) (begin_ N.length ds) := by
  have hl := h.length
  refine ⟨ok, by simp [begin_, L2.start, hl], fun i d e => ?_, fun i es e => absurd e (begin_noOwn _ _ i es), fun i j es fs a e1 _ _ _ => absurd e1 (begin_noOwn _ _ i es)⟩
  unfold begin_ at e
  rw [List.getElem?_append] at e
  split at e
  · rename_i hi
    rw [List.getElem?_map] at e
    cases q : ds[i]? with
    | none => rw [q] at e; cases e
    | some d' =>
      rw [q] at e
      cases e
      obtain ⟨v, ev, hv⟩ := h.get q
      refine ⟨v, ?_, hv⟩
      unfold L2.start
      rw [List.getElem?_append_left (by simp; rw [List.length_map] at hi; omega), List.getElem?_map, ev]; rfl
  · rw [List.getElem?_replicate] at e
    split at e <;> cases e
/-- a body on data -/
def runM (n : Nat) (ms : MS) (ds : List D) (Qd : D → Prop) : Prop := ms { nx := fun _ => Qd .non, rt := Qd } (begin_ n ds)
/-- the reading of a body, from the promise -/
theorem body_of {K : PySem.W.Frag} {n : Nat} {f : List D → MD} {N : List Str} {vs : List V} {H : Hp} {Q : VK} {E : XK} {t : TS} {ms : MS} (h : spM K n f vs H Q E)
    (hS : ∀ b, EvS ⟨K, b⟩ t ms) (hf : ∀ ds Qd, ds.length = n → f ds Qd → runM N.length ms ds Qd) : t { nx := fun _ H' => Q .non H', rt := Q } (L2.start N vs) H := by
  obtain ⟨b, B, ds, Qd, ok, hd, hl, q, k⟩ := h
  have hb : ∀ c, (⟨K, b⟩ : Ga).b = some c → c ∈ B := fun c e => (ok.bg c e).1
  refine hS b B H B H (L2.start N vs) (begin_ N.length ds) ⟨begin_sta ok hd, Bx.refl _ _, fun _ z => z, fun _ z => .inl z, fun i es a e _ => absurd e (begin_noOwn _ _ i es), hb⟩ { nx := fun _ => Qd .non, rt := Qd } _
    ⟨fun ρ σ B' H' z hS' _ => k .non .non H' z hS'.bx (ok_less hS'.sta.ok hS'.up hb) .non, fun d v H' z b1 ok1 hv => k d v H' z b1 ok1 hv, fun _ _ _ _ z _ _ => z, fun _ _ _ _ z _ _ => z⟩ (hf ds Qd hl q)
end Dz

namespace Dz
open PySem PySem.Spec PyProof.Rows L2

/-! ### defs that may look at how things are written (repr): nothing is being written where they are called -/
structure FnG (P : Program) (w : World) (K : PySem.W.Frag) (mg : Str → Option Value) (base : Heap) (CX : CXT) (k : Nat) (f : Addr) (fd : FuncData) (ps : List Str) (sp : Sp) : Prop where
  len : ∀ vs H Q E, sp vs H Q E → vs.length = ps.length
  run : ∀ (A : Around) (outer : List Env) (s : Shared) (H : Hp) (args : Args) (us : List Value) (vs : List V) (Q : VK) (E : XK), Room k A → A.guards = some [] →
    Env0 P w K mg base A outer s H → BindsTo s fd args (ps.zip us) → Vals vs us → sp vs H Q E → codeAny (model P w) A (.call (.ref f) args) (CR CX outer P w H s Q E) s
section
variable {P : Program} {w : World} {K : PySem.W.Frag} {mg : Str → Option Value} {base : Heap} {CX : CXT}
theorem FnG.up {j k : Nat} {f : Addr} {fd : FuncData} {ps : List Str} {sp : Sp} (F : FnG P w K mg base CX j f fd ps sp) (h : j ≤ k) : FnG P w K mg base CX k f fd ps sp :=
  ⟨F.len, fun A outer s H args us vs Q E hr hg e0 hb hv hs => F.run A outer s H args us vs Q E (hr.mono h) hg e0 hb hv hs⟩
/-- a def's body, its reading: the promise -/
theorem fnG_of {x qual : Str} {st : Stmt} {f : Addr} {fd : FuncData} {N ps : List Str} {k : Nat} {sp : Sp} (F : Fun K x qual st f fd) (S : FnScope N ps (defScope st)) (len : ∀ vs H Q E, sp vs H Q E → vs.length = ps.length)
    (hbody : ∀ (cdv : Value) (A : Around) (outer : List Env) (s : Shared) (H : Hp) (vs : List V) (Q : VK) (E : XK), Room k (A.deeper (envOfC qual (defScope st) s.heap.objs.size f cdv)) → A.guards = some [] → sp vs H Q E →
      ∃ t, PSs (cxOf CX P w K mg base N qual (defScope st) f cdv A outer s H E) (defBody st) t ∧ t { nx := fun _ H' => Q .non H', rt := Q } (L2.start N vs) H) : FnG P w K mg base CX (k + 1) f fd ps sp := by
  obtain ⟨oc, od, kV, doc, pm, an, cdv, ct, osl, rfl, lk, hcd⟩ := F.ex
  refine ⟨len, fun A outer s₀ H args us vs Q E room quiet e0 hb r promise => ?_⟩
  have KX : K.In s₀.heap := e0.mod.kin.keeps fun b o e => (e0.bs b o e).1
  have hkind : ∀ y ∈ ps.zip us, (defScope st).names.lookup y.1 = some .local ∨ ((defScope st).names.lookup y.1 = some .cell ∧ ((cellsFrom (s₀.heap.objs.size + 1) (defScope st).names []).lookup y.1).isSome = true) := by
    rintro ⟨n, v⟩ hy
    rcases S.par n (List.of_mem_zip hy).1 with q | q
    · left; exact q
    · right; exact ⟨q, PySem.W.cellsFrom_some _ _ _ (.inl q)⟩
  refine codeAny_call_function room.depth (KX _ _ lk) rfl S.co S.gen rfl (PySem.W.codeRec_of KX hcd) (hb _ _ _ _ (wpAny_newFunctionEnv_cells S.kind hkind fun env he s1 x => ?_))
  subst he
  refine ⟨(e0.mod.nolimit.keeps fun b o e => (e0.bs b o e).1).keeps x.toInCall.keep, codeAny_func ?_⟩
  obtain ⟨t, ht, hq⟩ := hbody cdv A outer s₀ H vs Q E (room.deeper _) quiet promise
  refine wpAny_mono (ht.run [] s1 (L2.start N vs) H _ (inv_start S room.hd e0 (len _ _ _ _ promise) r x) hq) (fun fl s' hs => ?_) fun e s' hs => hs
  cases fl with
  | ret u => obtain ⟨v, σ', H', J, rv, q⟩ := hs; exact ⟨v, H', J.os, J.bare, J.base, J.hok, rv, q⟩
  | next => obtain ⟨σ', H', J, q⟩ := hs; exact ⟨V.non, H', J.os, J.bare, J.base, J.hok, rfl, q⟩
  | brk => obtain ⟨_, _, _, q⟩ := hs; exact q.elim
  | cont => obtain ⟨_, _, _, q⟩ := hs; exact q.elim
end
section
variable {X : Cx} {CX : CXT} {k : Nat} {f : Addr} {fd : FuncData} {ps : List Str} {sp : Sp} {dvs : List V} {ds : List Value} {E : XK} {x : Str} {p pos : Pos} {e : Expr} {es : List Expr} {t : TA}
theorem runG {pins : List (Addr × Obj)} {σ : L2.St} {H : Hp} {s : Shared} {Q : VK} {us : List Value} {vs : List V} (F : FnG X.prog X.w X.K X.mg X.base CX k f fd ps sp) (hr : Room k X.A) (hq : X.A.guards = some []) (hb : Binds X.K fd ps ds) (hd : Vals dvs ds)
    (hx : Passes CX X E) (I : Inv X pins σ H s) (r : Vals vs us) (h : sp (vs ++ dvs) H Q E) : wpAny (model X.prog X.w) X.A (call (.ref f) us) (EP X pins σ Q) X.xe s := by
  have both : Vals (vs ++ dvs) (us ++ ds) := r.append hd
  have many : (us ++ ds).length = ps.length := both.length.symm.trans (F.len _ _ _ _ h)
  refine wpAny_call (codeAny_mono (F.run X.A X.stack s H ⟨us, []⟩ (us ++ ds) (vs ++ dvs) Q E hr hq I.env0 (hb s us I.kIn many) both h) fun res s' told => ?_)
  match res, told with
  | .error e, told => exact hx pins σ H s e s' I told
  | .ok (.ret u), told => exact I.after told
/-- f(e, ..) -/
theorem peG (F : FnG X.prog X.w X.K X.mg X.base CX k f fd ps sp) (hr : Room k X.A) (hq : X.A.guards = some []) (hg : Gl X x) (hm : X.mg x = some (.ref f)) (hk : PySem.W.keepIn X.K (.ref f) = true) (hb : Binds X.K fd ps ds) (hd : Vals dvs ds) (hx : Passes CX X E)
    (ha : PA X (e :: es) t) (hdb : (x == ("__debug__" : Str)) = false := by decide) (he : starEach (e :: es) X.env = (false, eval e X.env) :: starEach es X.env := by rfl) (hpl : (backTo pos (starEach es X.env)).any (·.1) = false := by rfl) :
    PE X (.Call (.Name x p) (e :: es) [] pos) (tCall sp dvs E t) := ⟨fun pins s σ H Q I h =>
  wpAny_Call_Name_kw (ld_glob I hg hm (PySem.W.callWith_K (h₀ := X.base) I.ok.mod.kin hk (thn (ha.run pos pins s σ H _ I h) fun us s1 ⟨vs, H1, I1, r, q⟩ => ⟨I1.kIn, runG F hr hq hb hd hx I1 r q⟩) he hpl) hdb)⟩
end

/-! ### the end of a law -/
section
variable {P : Program} {w : World} {K : PySem.W.Frag} {mg mb : Str → Option Value} {k : Nat} {fa a : Addr} {fd : FuncData} {x : Str} {sp : Sp} {s₁ : Shared} {vs : List Value} {ns : List Int}
theorem law_callG (KX : K.In s₁.heap) (hns : s₁.heap.Ns mainGlobals mg) (hb : s₁.heap.Ns builtinsNs mb) (hbb : ∀ x : Str, x ≠ "__name__" → mb x = bootBuiltins x) (hlim : s₁.heap.NoLimit) (hg : s₁.gens = #[])
    (ha : s₁.heap.get? a = some { cls := .type "list", data := .seq vs.toArray }) (hi : IntsAre vs ns) (hl : ns.length ≤ sizeLine) (hr : Room k callerA) (hq : callerA.guards = some [])
    (F : ∀ base : Heap, K.In base → base.Ns mainGlobals mg → FnG P w K mg base CX0 k fa fd [x] sp) (hbind : ∀ (s : Shared) (u : Value), BindsTo s fd ⟨[u], []⟩ [(x, u)])
    (hsp : ∀ H : Hp, Only H → SqL K H a (ns.map V.int) → sp [.ref a] H (fun v _ => v = .bl true) fun _ _ _ => False) :
    codeAny (model P w) callerA (.call (.ref fa) ⟨[.ref a], []⟩) (fun r s' => r = .ok (.ret (.bool true)) ∧ OldK s₁.heap s'.heap ∧ s'.os = s₁.os ∧ AllBare s'.gens) s₁ := by
  have rv := vals_ints hi
  -- H tracks the script at most
  have core : ∀ H : Hp, Only H → SqL K H a (ns.map V.int) → HOk P w H s₁.heap → (∀ b u, H b = some u → b = a) → ((∃ u, H a = some u) → K.lookup a = none) →
      codeAny (model P w) callerA (.call (.ref fa) ⟨[.ref a], []⟩) (fun r s' => r = .ok (.ret (.bool true)) ∧ OldK s₁.heap s'.heap ∧ s'.os = s₁.os ∧ AllBare s'.gens) s₁ := by
    intro H hO hS hok hA hK
    have ns_of : ∀ {b : Addr} {m : Str → Option Value}, s₁.heap.Ns b m → (hidT s₁.heap H).Ns b m := by
      rintro b m ⟨o, es, ep, e, d, r⟩
      refine ⟨o, es, ep, hidT_get e ?_, d, r⟩
      match z : H b with
      | none => rfl
      | some u =>
        have z1 := hA b u z
        rw [z1, ha] at e
        cases e
        have d' : Data.seq vs.toArray _ = Data.dict es ep := d
        cases d'
    have KB : K.In (hidT s₁.heap H) := fun b o e => hidT_get (KX b o e) (by
      match z : H b with
      | none => rfl
      | some u =>
        have z1 := hA b u z
        subst z1
        rw [hK ⟨u, z⟩] at e
        cases e)
    have ground : Mod K mg (hidT s₁.heap H) := ⟨KB, ns_of hns, ⟨mb, ns_of hb, hbb⟩, let ⟨mc, h1, h2⟩ := hlim; ⟨mc, ns_of h1, h2⟩⟩
    have e0 : Env0 P w K mg (hidT s₁.heap H) callerA [] s₁ H :=
      { frames := rfl, mod := ground, bs := fun b o e => of_hidT e, bsz := Nat.le_of_eq (hidT_size _ _), funs := trivial, frf := fun b hb => absurd (show b ∈ ([] : List Addr) from hb) (by simp), hok := hok, bare := .of_eq hg }
    refine codeAny_mono ((F _ KB (ns_of hns)).run callerA [] s₁ H ⟨[.ref a], []⟩ [.ref a] [.ref a] _ _ hr hq e0 (hbind s₁ (.ref a)) (.cons rfl .nil) (hsp H hO hS)) fun r s' told => ?_
    match r, told with
    | .error e, told => exact told.elim
    | .ok (.ret u), ⟨v, H', os, bare, un, hok', r', q⟩ =>
      have q' : v = .bl true := q
      subst q'
      have r2 : u = Value.bool true := r'
      subst r2
      refine ⟨rfl, OldK.of_keep fun b o e => ?_, os, bare⟩
      match z : H b with
      | none => exact un.keep b o e z (fun m => absurd (show b ∈ ([] : List Addr) from m) (by simp)) (by simp)
      | some u =>
        rcases hO b with n | ⟨ob, xs, n⟩
        · rw [z] at n; cases n
        · obtain ⟨e1, _⟩ := hok b _ n
          obtain ⟨e2, _⟩ := hok' b _ (un.frzs b ob _ n)
          have e3 : some o = some ob := e.symm.trans e1
          rw [Option.some.inj e3]
          exact e2
  match hk : K.lookup a with
  | some o =>
    have e1 := KX a o hk
    rw [ha] at e1
    have e2 : { cls := .type "list", data := .seq vs.toArray } = o := Option.some.inj e1
    subst e2
    refine core (fun _ => none) (fun _ => .inl rfl) (.inr ⟨_, vs.toArray, _, hk, rfl, rfl, rfl, by rw [List.size_toArray, hi.length]; exact hl, by simpa using rv⟩) (fun b u z => by cases (show (none : Option HO) = some u from z)) (fun b u z => by cases (show (none : Option HO) = some u from z)) fun ⟨u, z⟩ => by cases (show (none : Option HO) = some u from z)
  | none =>
    let H1 : Hp := fun b => if b = a then some (.frz { cls := .type "list", data := .seq vs.toArray } (.lst (ns.map V.int))) else none
    have at_a : H1 a = some (.frz { cls := .type "list", data := .seq vs.toArray } (.lst (ns.map V.int))) := if_pos rfl
    have off : ∀ b u, H1 b = some u → b = a := fun b u z => by
      by_cases hb : b = a
      · exact hb
      · rw [show H1 b = none from if_neg hb] at z; cases z
    refine core H1 (fun b => ?_) (.inl (.inr ⟨_, at_a⟩)) (fun b u z => ?_) off fun _ => hk
    · by_cases hb : b = a
      · right; exact ⟨_, _, by rw [hb]; exact at_a⟩
      · left; exact if_neg hb
    · have hb := off b u z
      subst hb
      rw [at_a] at z
      cases z
      exact ⟨ha, by rw [List.length_map]; exact hl, vs, _, rv, ha⟩
end
theorem walk_ofG {l : PySem.W.OpenLaw} {n k : Nat} {q : Program} {loose : List Str} {XP : (Str → Option Value) → Heap → Prop} {YP : World → Heap → Prop} {d : DefRec} {K : Params → PySem.W.Frag} {sp : PySem.W.Frag → Sp} {x : Str}
    (hn : l.most = some n) (hn2 : n ≤ sizeLine) (hdf : d.params.defaults = []) (hr : Room k callerA) (hq : callerA.guards = some []) (hY : ∀ (w : World) (h : Heap), YP w h → (K w.params).In h)
    (F : ∀ (w : World) (mg : Str → Option Value) (fa : Addr) (h : Heap), (K w.params).In h → h.Ns mainGlobals mg → mg d.name = some (.ref fa) →
      ∃ fd : FuncData, (∀ (s : Shared) (u : Value), BindsTo s fd ⟨[u], []⟩ [(x, u)]) ∧ ∀ base : Heap, (K w.params).In base → base.Ns mainGlobals mg → FnG l.prog w (K w.params) mg base CX0 k fa fd [x] (sp (K w.params)))
    (hsp : ∀ (K : PySem.W.Frag) (H : Hp) (a : Addr) (ns : List Int), ns.length ≤ n → Only H → SqL K H a (ns.map V.int) → sp K [.ref a] H (fun v _ => v = .bl true) fun _ _ _ => False) :
    PySem.W.WalkO q loose XP YP l.row.toRowW d [] (fun f vs => PySem.call f vs) :=
  Att.attach_call hn hdf fun w s₀ s₁ mg mb fa o pm cd doc a vs ns Gr Y ho hd hcd hmg hobj hints hlen hgen => by
    have KX := hY w _ Y
    obtain ⟨fd, hb, hF⟩ := F w mg fa _ KX Gr.T.g hmg
    exact law_callG KX Gr.T.g Gr.T.b Gr.T.builtins Gr.T.nolimit hgen hobj hints (Nat.le_trans hlen hn2) hr hq hF hb fun H hO hS => hsp _ H a ns hlen hO hS
end Dz

namespace Dz
open PySem PySem.Spec PyProof.Rows L2

theorem pget_lst {X : Cx} : PGet X (rIxL X.K) := by
  intro pins s σ H o i ov iv Q I r1 r2 h
  obtain ⟨p, xs, k, z, rfl, rfl, hq, he, q⟩ := h
  cases r1
  obtain ⟨t, rfl⟩ := r2
  obtain ⟨its, r, pl, hz⟩ := I.list hq
  obtain ⟨j, h1, h2, h3, h4, h5⟩ := atI_get he
  obtain ⟨u, ew, ru⟩ := r.get h2
  have hl := r.length
  have hn := line63
  have fin : EP X pins σ Q u s := ⟨z, H, I, ru, q⟩
  by_cases h0 : 0 ≤ k
  · have hj : k.toNat = j := by
      rw [seqIndex_of h0 h5] at h1
      exact Option.some.inj h1
    exact getItem_listL pl.isList h0 (by omega) (by rw [hj]; exact ew) fin
  · have hj : (k + (its.toArray.size : Int)).toNat = j := by
      rw [seqIndex_neg (by omega) h4] at h1
      rw [List.size_toArray, ← hl]
      exact Option.some.inj h1
    exact wpAny_getItem_list_neg pl.isList (by omega) (by rw [List.size_toArray] <;> omega) (by omega) (by rw [hj]; simpa using ew) fin

/-! ### the law's bag of draws -/
/-- a draw below n: any -/
def takeM (ds : List D) (Q : D → Prop) : Prop := match ds with
  | [.bag, .int n] => (0 < n ∧ n.natAbs.log2 < 9000) ∧ ∀ r : Int, 0 ≤ r → r < n → Q (.int r)
  | _ => False
/-- the bag is made: what it holds is nobody else's -/
def spBag (K : PySem.W.Frag) : Sp := fun vs H Q _ => ∃ (a : Addr) (ns : List Int), vs = [.ref a] ∧ SqL K H a (ns.map V.int) ∧ ns.length ≤ 100000 ∧
  ∀ b H', Bx [] H H' → Ok ⟨K, some b⟩ [b] H' → Q (.ref b) H'
theorem spBag_len {K : PySem.W.Frag} {vs : List V} {H : Hp} {Q : VK} {E : XK} (h : spBag K vs H Q E) : vs.length = 1 := by
  obtain ⟨a, ns, rfl, _⟩ := h; rfl
def absI (i : Int) : Int := if i < 0 then -i else i
theorem absI_nn (i : Int) : 0 ≤ absI i := by unfold absI; split <;> omega
/-- how a list of ints is cut -/
theorem cut_ints (ns : List Int) (lo hi : Option Int) : ∃ ms : List Int, cutV (ns.map V.int) lo hi = ms.map V.int ∧ ms.length ≤ ns.length := by
  refine ⟨(ns.drop (HT.sIx ns.length 0 lo)).take (HT.sIx ns.length ns.length hi - HT.sIx ns.length 0 lo), ?_, ?_⟩
  · unfold cutV; rw [List.length_map, List.map_take, List.map_drop]
  · rw [List.length_take, List.length_drop]; omega
theorem spTake_inv {K : PySem.W.Frag} {vs : List V} {H : Hp} {Q : VK} {E : XK} (h : spM K 2 takeM vs H Q E) : ∃ (b c : Addr) (m z t n : Int) (cells : List Int), vs = [.ref b, .int m] ∧ 0 < m ∧ m.natAbs.log2 < 9000 ∧
    H b = some (.lst [.int z, .int t, .int n, .ref c]) ∧ H c = some (.lst (cells.map V.int)) ∧ 0 ≤ z ∧ 0 ≤ t ∧ 0 ≤ n ∧ (∀ x ∈ cells, 0 ≤ x) ∧ c ≠ b ∧
    ∀ r z' t' n' H', 0 ≤ r → r < m → 0 ≤ z' → 0 ≤ t' → 0 ≤ n' → H' b = some (.lst [.int z', .int t', .int n', .ref c]) → (∀ a, a ≠ b → H' a = H a) → Q (.int r) H' := by
  obtain ⟨bo, B, ds, Qd, ok, hd, hl, q, k⟩ := h
  unfold takeM at q
  split at q
  · rename_i m
    obtain ⟨v, w, rfl, hv, hw⟩ := hd.two
    cases hw
    cases hv with
    | bag hb =>
      rename_i b
      have hb' : bo = some b := hb
      subst hb'
      obtain ⟨hB, z, t, n, c, cells, h1, h2, h3, h4, h5, h6, h7⟩ := ok.bg b rfl
      have ncb : c ≠ b := fun e => h3 (e ▸ hB)
      refine ⟨b, c, m, z, t, n, cells, rfl, q.1.1, q.1.2, h1, h2, h4, h5, h6, h7, ncb, fun r z' t' n' H' r0 r1 z0 t0 n0 e1 e2 => ?_⟩
      refine k (.int r) (.int r) H' (q.2 r r0 r1) (fun a o na e => ?_) ⟨fun a ha => ?_, fun b' e => ?_⟩ (.int r)
      · have : a ≠ b := fun z => na (by unfold Ga.c; rw [z]; simp)
        rw [e2 a this]; exact e
      · by_cases z : a = b
        · rw [z, e1]; simp
        · rw [e2 a z]; exact ok.al a ha
      · have : b = b' := Option.some.inj e
        subst this
        exact ⟨hB, z', t', n', c, cells, e1, by rw [e2 c ncb]; exact h2, h3, z0, t0, n0, h7⟩
  · exact q.elim
def lst4 (z t n : Int) (c : Addr) : HO := .lst [.int z, .int t, .int n, .ref c]
end Dz
namespace Dz
open PySem PySem.Spec PyProof.Rows L2
/-- the law: True for every script -/
def spLaw (K : PySem.W.Frag) : Sp := fun vs H Q _ => ∃ (a : Addr) (ns : List Int), vs = [.ref a] ∧ SqL K H a (ns.map V.int) ∧ ns.length ≤ 63 ∧ ∀ H', Q (.bl true) H'
theorem spLaw_len {K : PySem.W.Frag} {vs : List V} {H : Hp} {Q : VK} {E : XK} (h : spLaw K vs H Q E) : vs.length = 1 := by
  obtain ⟨a, ns, rfl, _⟩ := h; rfl
theorem law_body {K : PySem.W.Frag} {vs : List V} {H : Hp} {Q : VK} {E E2 : XK} {N : List Str} {t : TS} {ms : MS} {n : Nat} (h : spLaw K vs H Q E)
    (hS : ∀ b, EvS ⟨K, some b⟩ t ms) (hlaw : ms { nx := fun _ => False, rt := fun d => d = .bl true } (.no :: .val .bag :: List.replicate n .no)) (hN : N.length = n + 2 := by rfl) :
    tSeq (tAsg (tCall (spBag K) [] E2 (tCons (tVar 0) tNil)) (gName 1)) t { nx := fun _ H' => Q .non H', rt := Q } (L2.start N vs) H := by
  obtain ⟨a, ns, rfl, hL, hlen, q⟩ := h
  have est : L2.start N [V.ref a] = some (.ref a) :: none :: List.replicate n none := by
    unfold L2.start
    rw [hN]; rfl
  rw [est]
  refine ⟨.ref a, rfl, a, ns, rfl, hL, by omega, fun b H1 e1 ok1 => ?_⟩
  have hin : b ∈ [b] := by simp
  have sta : Sta ⟨K, some b⟩ [b] H1 (some (.ref a) :: some (.ref b) :: List.replicate n none) (.no :: .val .bag :: List.replicate n .no) := by
    refine ⟨ok1, by simp, fun i d e => ?_, fun i ds e => ?_, fun i j ds es x e _ _ _ => ?_⟩
    · match i, e with
      | 1, e => cases e; exact ⟨_, rfl, .bag rfl⟩
      | i + 2, e =>
        have e' : (List.replicate n Slot.no)[i]? = some (Slot.val d) := e
        rw [List.getElem?_replicate] at e'
        split at e' <;> cases e'
    · match i, e with
      | i + 2, e =>
        have e' : (List.replicate n Slot.no)[i]? = some (Slot.own ds) := e
        rw [List.getElem?_replicate] at e'
        split at e' <;> cases e'
    · match i, e with
      | i + 2, e =>
        have e' : (List.replicate n Slot.no)[i]? = some (Slot.own ds) := e
        rw [List.getElem?_replicate] at e'
        split at e' <;> cases e'
  refine hS b [b] H1 [b] H1 _ _ ⟨sta, Bx.refl _ _, fun _ z => z, fun _ z => .inl z, fun i ds x e _ => absurd (sta.own i ds e) fun ⟨_, _, e1, _⟩ => ?_, fun c e => by rw [show b = c from Option.some.inj e]; simp⟩ { nx := fun _ => False, rt := fun d => d = .bl true } _ ⟨fun _ _ _ _ z _ _ => z.elim, fun d v H' z _ _ hv => ?_, fun _ _ _ _ z _ _ => z.elim, fun _ _ _ _ z _ _ => z.elim⟩ hlaw
  · match i, e with
    | i + 2, e =>
      have e' : (List.replicate n Slot.no)[i]? = some (Slot.own ds) := e
      rw [List.getElem?_replicate] at e'
      split at e' <;> cases e'
  · have z' : d = .bl true := z
    subst z'
    cases hv
    exact q H'
end Dz
namespace Dz
open PySem PySem.Spec PyProof.Rows L2
theorem bt_len : bootBuiltins "len" = some (.builtin "len") := by decide +kernel
theorem bt_int : bootBuiltins "int" = some (.type "int") := by decide +kernel
theorem bt_tuple : bootBuiltins "tuple" = some (.type "tuple") := by decide +kernel
theorem bt_list : bootBuiltins "list" = some (.type "list") := by decide +kernel
theorem bt_all : bootBuiltins "all" = some (.builtin "all") := by decide +kernel
theorem bt_any : bootBuiltins "any" = some (.builtin "any") := by decide +kernel
theorem bt_isinstance : bootBuiltins "isinstance" = some (.builtin "isinstance") := by decide +kernel
theorem bt_repr : bootBuiltins "repr" = some (.builtin "repr") := by decide +kernel
theorem bt_abs : bootBuiltins "abs" = some (.builtin "abs") := by decide +kernel
theorem bt_str : bootBuiltins "str" = some (.type "str") := by decide +kernel
theorem bt_bool : bootBuiltins "bool" = some (.type "bool") := by decide +kernel
theorem bt_dict : bootBuiltins "dict" = some (.type "dict") := by decide +kernel
theorem bt_sorted : bootBuiltins "sorted" = some (.builtin "sorted") := by decide +kernel
theorem bt_set : bootBuiltins "set" = some (.type "set") := by decide +kernel
theorem bt_min : bootBuiltins "min" = some (.builtin "min") := by decide +kernel
theorem bt_max : bootBuiltins "max" = some (.builtin "max") := by decide +kernel
theorem bt_sum : bootBuiltins "sum" = some (.builtin "sum") := by decide +kernel
end Dz

namespace Dz
open PySem PySem.Spec PyProof.Rows L2
/-! ### the rules with the written part by its name -/
section
variable {X : Cx} {K : PySem.W.Frag}
theorem ixK (h : X.K = K) : IxR X (rIx K) := by subst h; exact ix_seq
theorem slK (h : X.K = K) : SlR X (rSlU K) := by subst h; exact sl_U
theorem addK (h : X.K = K) : OpR X (binaryOp .Add) (rAddU K) := by subst h; exact op_addU
theorem eqK (h : X.K = K) (hu : X.A.units + 64 < cLine) : OpR X (compareOp .Eq) (rEqU K) := by subst h; exact op_eq.or (op_eqD hu)
theorem neK (h : X.K = K) (hu : X.A.units + 64 < cLine) : OpR X (compareOp .NotEq) (rNeU K) := by subst h; exact op_ne.or (op_neD hu)
theorem lenK (h : X.K = K) : CallR X (.builtin "len") (rLenU K) := by subst h; exact call_lenU
theorem tupK (h : X.K = K) : CallR X (.type "tuple") (rTupU K) := by subst h; exact call_tupU
theorem lstK (h : X.K = K) : CallR X (.type "list") (rLstU K) := by subst h; exact call_lstU
theorem allK (h : X.K = K) (hc : X.calm = true) : CallR X (.builtin "all") (rAll K) := by subst h; exact cr_all hc
theorem anyK (h : X.K = K) (hc : X.calm = true) : CallR X (.builtin "any") (rAny K) := by subst h; exact cr_any hc
theorem isiK (h : X.K = K) : CallR X (.builtin "isinstance") (rIsi K) := by subst h; exact call_isi
theorem reprK {k : Nat} (h : X.K = K) (hg : X.A.guards = some []) (hr : Room k X.A) : CallR X (.builtin "repr") (rRepr K) := by subst h; exact call_repr hg hr
def tTruK (K : PySem.W.Frag) (te : TE) : TT := fun σ H Q => te σ H fun x H' => ∃ k, TruV K x H' k ∧ Q k H'
theorem pt_truthK (h : X.K = K) {a : Expr} {ta : TE} (ha : PE X a ta) (he : ∀ whole, isTrue a X.env whole = (do let v ← whole; standAt a.pos; holding [v] (truthy v)) := by intro _; rfl) : PT X a (tTruK K ta) := by
  subst h; exact pt_truth ha he
theorem pe_orK (h : X.K = K) {a b : Expr} {rest : List Expr} {pos : Pos} {ta tb : TE} (ha : PE X a ta) (hb : PE X (.BoolOp .Or (b :: rest) pos) tb) : PE X (.BoolOp .Or (a :: b :: rest) pos) (tOrT K ta tb) := by subst h; exact pe_orT ha hb
theorem pe_andK (h : X.K = K) {a b : Expr} {rest : List Expr} {pos : Pos} {ta tb : TE} (ha : PE X a ta) (hb : PE X (.BoolOp .And (b :: rest) pos) tb) : PE X (.BoolOp .And (a :: b :: rest) pos) (tAndT K ta tb) := by subst h; exact pe_andT ha hb
theorem pi_lstK (h : X.K = K) {tg l : Expr} {tl : TE} (hl : PE X l tl) : PI X tg l (iList K tl) := by subst h; exact pi_list hl
theorem pi_tupK (h : X.K = K) {tg l : Expr} {tl : TE} (hl : PE X l tl) : PI X tg l (iTup K tl) := by subst h; exact pi_tup hl
theorem pe_joinK (h : X.K = K) {o e : Expr} {to te : TE} {apos pos : Pos} (ho : PE X o to) (he : PE X e te) (hs : starEach [e] X.env = [(false, eval e X.env)] := by rfl) (hbase : attributeBase o "join" X.env (eval o X.env) = eval o X.env := by rfl) (hline : (apos.endLine == pos.line) = true := by rfl) :
    PE X (.Call (.Attribute o "join" apos) [e] [] pos) (tM1 (rJoin K) to te) := by subst h; exact pe_join ho he hs hbase hline
theorem pe_splitK {o e : Expr} {to te : TE} {apos pos : Pos} (ho : PE X o to) (he : PE X e te) (hs : starEach [e] X.env = [(false, eval e X.env)] := by rfl) (hbase : attributeBase o "split" X.env (eval o X.env) = eval o X.env := by rfl) (hline : (apos.endLine == pos.line) = true := by rfl) :
    PE X (.Call (.Attribute o "split" apos) [e] [] pos) (tM1 rSplit to te) := pe_split ho he hs hbase hline
theorem evt_truK {G : Ga} {ta : TE} {ma : ME} (h : EvD G ta ma) : EvT G (tTruK G.K ta) (mTru ma) := evt_truth h
theorem pg_tupK (h : X.K = K) {es : List Expr} {k : Nat} {t : TGs} {n : Nat} {pos : Pos} (hc : X.calm = true) (hg : PGs X es t)
    (hn : (assignEach es X.env).length = n := by rfl) (hst : (assignEach es X.env).findIdx? (·.1) = none := by rfl) : PG X (.Tuple es k pos) (gTup K n t) := by subst h; exact pg_tup hc hg hn hst
end
end Dz

namespace Dz
open PySem PySem.Spec PyProof.Rows L2
/-! ### reckoning with mirrors -/
theorem isi_non_int (Q : D → Prop) : isiF [.non, .ty "int"] Q = Q (.bl false) := by
  show someD (kitB "NoneType" "int") (fun b => Q (.bl b)) = _
  rw [show kitB "NoneType" "int" = some false from by decide +kernel] <;> rfl
theorem isi_non_bool (Q : D → Prop) : isiF [.non, .ty "bool"] Q = Q (.bl false) := by
  show someD (kitB "NoneType" "bool") (fun b => Q (.bl b)) = _
  rw [show kitB "NoneType" "bool" = some false from by decide +kernel] <;> rfl
theorem isi_non_str (Q : D → Prop) : isiF [.non, .ty "str"] Q = Q (.bl false) := by
  show someD (kitB "NoneType" "str") (fun b => Q (.bl b)) = _
  rw [show kitB "NoneType" "str" = some false from by decide +kernel] <;> rfl
theorem isi_non_tuple (Q : D → Prop) : isiF [.non, .ty "tuple"] Q = Q (.bl false) := by
  show someD (kitB "NoneType" "tuple") (fun b => Q (.bl b)) = _
  rw [show kitB "NoneType" "tuple" = some false from by decide +kernel] <;> rfl
theorem isi_non_list (Q : D → Prop) : isiF [.non, .ty "list"] Q = Q (.bl false) := by
  show someD (kitB "NoneType" "list") (fun b => Q (.bl b)) = _
  rw [show kitB "NoneType" "list" = some false from by decide +kernel] <;> rfl
theorem isi_non_dict (Q : D → Prop) : isiF [.non, .ty "dict"] Q = Q (.bl false) := by
  show someD (kitB "NoneType" "dict") (fun b => Q (.bl b)) = _
  rw [show kitB "NoneType" "dict" = some false from by decide +kernel] <;> rfl
theorem isi_bl_int (x : Bool) (Q : D → Prop) : isiF [(.bl x), .ty "int"] Q = Q (.bl true) := by
  show someD (kitB "bool" "int") (fun b => Q (.bl b)) = _
  rw [show kitB "bool" "int" = some true from by decide +kernel] <;> rfl
theorem isi_bl_bool (x : Bool) (Q : D → Prop) : isiF [(.bl x), .ty "bool"] Q = Q (.bl true) := by
  show someD (kitB "bool" "bool") (fun b => Q (.bl b)) = _
  rw [show kitB "bool" "bool" = some true from by decide +kernel] <;> rfl
theorem isi_bl_str (x : Bool) (Q : D → Prop) : isiF [(.bl x), .ty "str"] Q = Q (.bl false) := by
  show someD (kitB "bool" "str") (fun b => Q (.bl b)) = _
  rw [show kitB "bool" "str" = some false from by decide +kernel] <;> rfl
theorem isi_bl_tuple (x : Bool) (Q : D → Prop) : isiF [(.bl x), .ty "tuple"] Q = Q (.bl false) := by
  show someD (kitB "bool" "tuple") (fun b => Q (.bl b)) = _
  rw [show kitB "bool" "tuple" = some false from by decide +kernel] <;> rfl
theorem isi_bl_list (x : Bool) (Q : D → Prop) : isiF [(.bl x), .ty "list"] Q = Q (.bl false) := by
  show someD (kitB "bool" "list") (fun b => Q (.bl b)) = _
  rw [show kitB "bool" "list" = some false from by decide +kernel] <;> rfl
theorem isi_bl_dict (x : Bool) (Q : D → Prop) : isiF [(.bl x), .ty "dict"] Q = Q (.bl false) := by
  show someD (kitB "bool" "dict") (fun b => Q (.bl b)) = _
  rw [show kitB "bool" "dict" = some false from by decide +kernel] <;> rfl
theorem isi_int_int (x : Int) (Q : D → Prop) : isiF [(.int x), .ty "int"] Q = Q (.bl true) := by
  show someD (kitB "int" "int") (fun b => Q (.bl b)) = _
  rw [show kitB "int" "int" = some true from by decide +kernel] <;> rfl
theorem isi_int_bool (x : Int) (Q : D → Prop) : isiF [(.int x), .ty "bool"] Q = Q (.bl false) := by
  show someD (kitB "int" "bool") (fun b => Q (.bl b)) = _
  rw [show kitB "int" "bool" = some false from by decide +kernel] <;> rfl
theorem isi_int_str (x : Int) (Q : D → Prop) : isiF [(.int x), .ty "str"] Q = Q (.bl false) := by
  show someD (kitB "int" "str") (fun b => Q (.bl b)) = _
  rw [show kitB "int" "str" = some false from by decide +kernel] <;> rfl
theorem isi_int_tuple (x : Int) (Q : D → Prop) : isiF [(.int x), .ty "tuple"] Q = Q (.bl false) := by
  show someD (kitB "int" "tuple") (fun b => Q (.bl b)) = _
  rw [show kitB "int" "tuple" = some false from by decide +kernel] <;> rfl
theorem isi_int_list (x : Int) (Q : D → Prop) : isiF [(.int x), .ty "list"] Q = Q (.bl false) := by
  show someD (kitB "int" "list") (fun b => Q (.bl b)) = _
  rw [show kitB "int" "list" = some false from by decide +kernel] <;> rfl
theorem isi_int_dict (x : Int) (Q : D → Prop) : isiF [(.int x), .ty "dict"] Q = Q (.bl false) := by
  show someD (kitB "int" "dict") (fun b => Q (.bl b)) = _
  rw [show kitB "int" "dict" = some false from by decide +kernel] <;> rfl
theorem isi_str_int (x : Str) (Q : D → Prop) : isiF [(.str x), .ty "int"] Q = Q (.bl false) := by
  show someD (kitB "str" "int") (fun b => Q (.bl b)) = _
  rw [show kitB "str" "int" = some false from by decide +kernel] <;> rfl
theorem isi_str_bool (x : Str) (Q : D → Prop) : isiF [(.str x), .ty "bool"] Q = Q (.bl false) := by
  show someD (kitB "str" "bool") (fun b => Q (.bl b)) = _
  rw [show kitB "str" "bool" = some false from by decide +kernel] <;> rfl
theorem isi_str_str (x : Str) (Q : D → Prop) : isiF [(.str x), .ty "str"] Q = Q (.bl true) := by
  show someD (kitB "str" "str") (fun b => Q (.bl b)) = _
  rw [show kitB "str" "str" = some true from by decide +kernel] <;> rfl
theorem isi_str_tuple (x : Str) (Q : D → Prop) : isiF [(.str x), .ty "tuple"] Q = Q (.bl false) := by
  show someD (kitB "str" "tuple") (fun b => Q (.bl b)) = _
  rw [show kitB "str" "tuple" = some false from by decide +kernel] <;> rfl
theorem isi_str_list (x : Str) (Q : D → Prop) : isiF [(.str x), .ty "list"] Q = Q (.bl false) := by
  show someD (kitB "str" "list") (fun b => Q (.bl b)) = _
  rw [show kitB "str" "list" = some false from by decide +kernel] <;> rfl
theorem isi_str_dict (x : Str) (Q : D → Prop) : isiF [(.str x), .ty "dict"] Q = Q (.bl false) := by
  show someD (kitB "str" "dict") (fun b => Q (.bl b)) = _
  rw [show kitB "str" "dict" = some false from by decide +kernel] <;> rfl
theorem isi_tup_int (x : List D) (Q : D → Prop) : isiF [(.tup x), .ty "int"] Q = Q (.bl false) := by
  show someD (kitB "tuple" "int") (fun b => Q (.bl b)) = _
  rw [show kitB "tuple" "int" = some false from by decide +kernel] <;> rfl
theorem isi_tup_bool (x : List D) (Q : D → Prop) : isiF [(.tup x), .ty "bool"] Q = Q (.bl false) := by
  show someD (kitB "tuple" "bool") (fun b => Q (.bl b)) = _
  rw [show kitB "tuple" "bool" = some false from by decide +kernel] <;> rfl
theorem isi_tup_str (x : List D) (Q : D → Prop) : isiF [(.tup x), .ty "str"] Q = Q (.bl false) := by
  show someD (kitB "tuple" "str") (fun b => Q (.bl b)) = _
  rw [show kitB "tuple" "str" = some false from by decide +kernel] <;> rfl
theorem isi_tup_tuple (x : List D) (Q : D → Prop) : isiF [(.tup x), .ty "tuple"] Q = Q (.bl true) := by
  show someD (kitB "tuple" "tuple") (fun b => Q (.bl b)) = _
  rw [show kitB "tuple" "tuple" = some true from by decide +kernel] <;> rfl
theorem isi_tup_list (x : List D) (Q : D → Prop) : isiF [(.tup x), .ty "list"] Q = Q (.bl false) := by
  show someD (kitB "tuple" "list") (fun b => Q (.bl b)) = _
  rw [show kitB "tuple" "list" = some false from by decide +kernel] <;> rfl
theorem isi_tup_dict (x : List D) (Q : D → Prop) : isiF [(.tup x), .ty "dict"] Q = Q (.bl false) := by
  show someD (kitB "tuple" "dict") (fun b => Q (.bl b)) = _
  rw [show kitB "tuple" "dict" = some false from by decide +kernel] <;> rfl
theorem isi_lst_int (x : List D) (Q : D → Prop) : isiF [(.lst x), .ty "int"] Q = Q (.bl false) := by
  show someD (kitB "list" "int") (fun b => Q (.bl b)) = _
  rw [show kitB "list" "int" = some false from by decide +kernel] <;> rfl
theorem isi_lst_bool (x : List D) (Q : D → Prop) : isiF [(.lst x), .ty "bool"] Q = Q (.bl false) := by
  show someD (kitB "list" "bool") (fun b => Q (.bl b)) = _
  rw [show kitB "list" "bool" = some false from by decide +kernel] <;> rfl
theorem isi_lst_str (x : List D) (Q : D → Prop) : isiF [(.lst x), .ty "str"] Q = Q (.bl false) := by
  show someD (kitB "list" "str") (fun b => Q (.bl b)) = _
  rw [show kitB "list" "str" = some false from by decide +kernel] <;> rfl
theorem isi_lst_tuple (x : List D) (Q : D → Prop) : isiF [(.lst x), .ty "tuple"] Q = Q (.bl false) := by
  show someD (kitB "list" "tuple") (fun b => Q (.bl b)) = _
  rw [show kitB "list" "tuple" = some false from by decide +kernel] <;> rfl
theorem isi_lst_list (x : List D) (Q : D → Prop) : isiF [(.lst x), .ty "list"] Q = Q (.bl true) := by
  show someD (kitB "list" "list") (fun b => Q (.bl b)) = _
  rw [show kitB "list" "list" = some true from by decide +kernel] <;> rfl
theorem isi_lst_dict (x : List D) (Q : D → Prop) : isiF [(.lst x), .ty "dict"] Q = Q (.bl false) := by
  show someD (kitB "list" "dict") (fun b => Q (.bl b)) = _
  rw [show kitB "list" "dict" = some false from by decide +kernel] <;> rfl
theorem isi_dic_int (x : List (Key × D)) (Q : D → Prop) : isiF [(.dic x), .ty "int"] Q = Q (.bl false) := by
  show someD (kitB "dict" "int") (fun b => Q (.bl b)) = _
  rw [show kitB "dict" "int" = some false from by decide +kernel] <;> rfl
theorem isi_dic_bool (x : List (Key × D)) (Q : D → Prop) : isiF [(.dic x), .ty "bool"] Q = Q (.bl false) := by
  show someD (kitB "dict" "bool") (fun b => Q (.bl b)) = _
  rw [show kitB "dict" "bool" = some false from by decide +kernel] <;> rfl
theorem isi_dic_str (x : List (Key × D)) (Q : D → Prop) : isiF [(.dic x), .ty "str"] Q = Q (.bl false) := by
  show someD (kitB "dict" "str") (fun b => Q (.bl b)) = _
  rw [show kitB "dict" "str" = some false from by decide +kernel] <;> rfl
theorem isi_dic_tuple (x : List (Key × D)) (Q : D → Prop) : isiF [(.dic x), .ty "tuple"] Q = Q (.bl false) := by
  show someD (kitB "dict" "tuple") (fun b => Q (.bl b)) = _
  rw [show kitB "dict" "tuple" = some false from by decide +kernel] <;> rfl
theorem isi_dic_list (x : List (Key × D)) (Q : D → Prop) : isiF [(.dic x), .ty "list"] Q = Q (.bl false) := by
  show someD (kitB "dict" "list") (fun b => Q (.bl b)) = _
  rw [show kitB "dict" "list" = some false from by decide +kernel] <;> rfl
theorem isi_dic_dict (x : List (Key × D)) (Q : D → Prop) : isiF [(.dic x), .ty "dict"] Q = Q (.bl true) := by
  show someD (kitB "dict" "dict") (fun b => Q (.bl b)) = _
  rw [show kitB "dict" "dict" = some true from by decide +kernel] <;> rfl
/-! ### one step of a mirror, as an equation (by propext: the kernel has nothing to unfold) -/
def rngQ (ds : List D) (Q : List D → Prop) : Prop := match ds with
  | [.int n] => n < 2 ^ 62 ∧ -(2 ^ 62) ≤ n ∧ Q (upTo n.toNat)
  | _ => False
theorem e_rng1 (m : MA) (ρ : Rho) (Q : List D → Prop) : miRng1 m ρ Q = (m ρ fun ds => rngQ ds Q) := propext Iff.rfl
theorem e_rngQ (n : Int) (Q : List D → Prop) : rngQ [.int n] Q = (n < 2 ^ 62 ∧ -(2 ^ 62) ≤ n ∧ Q (upTo n.toNat)) := propext Iff.rfl
theorem e_seq (a b : MS) (n : Rho → Prop) (r : D → Prop) (k c : Rho → Prop) (ρ : Rho) : sSeq a b ⟨n, r, k, c⟩ ρ = (a ⟨fun ρ' => b ⟨n, r, k, c⟩ ρ', r, k, c⟩ ρ) := propext Iff.rfl
theorem e_next (n : Rho → Prop) (r : D → Prop) (k c : Rho → Prop) (ρ : Rho) : sNext ⟨n, r, k, c⟩ ρ = (n ρ) := propext Iff.rfl
theorem e_brk (n : Rho → Prop) (r : D → Prop) (k c : Rho → Prop) (ρ : Rho) : sBrk ⟨n, r, k, c⟩ ρ = (k ρ) := propext Iff.rfl
theorem e_cont (n : Rho → Prop) (r : D → Prop) (k c : Rho → Prop) (ρ : Rho) : sCont ⟨n, r, k, c⟩ ρ = (c ρ) := propext Iff.rfl
theorem e_drop (m : ME) (n : Rho → Prop) (r : D → Prop) (k c : Rho → Prop) (ρ : Rho) : sDrop m ⟨n, r, k, c⟩ ρ = (m ρ fun _ => n ρ) := propext Iff.rfl
theorem e_ifS (t : MT) (a b : MS) (n : Rho → Prop) (r : D → Prop) (k c : Rho → Prop) (ρ : Rho) : sIf t a b ⟨n, r, k, c⟩ ρ = (t ρ fun x => if x = true then a ⟨n, r, k, c⟩ ρ else b ⟨n, r, k, c⟩ ρ) := propext Iff.rfl
theorem e_asg (m : ME) (g : MG) (n : Rho → Prop) (r : D → Prop) (k c : Rho → Prop) (ρ : Rho) : sAsg m g ⟨n, r, k, c⟩ ρ = (m ρ fun d => g d ρ n) := propext Iff.rfl
theorem e_par (i j : Nat) (m : MA) (n : Rho → Prop) (r : D → Prop) (k c : Rho → Prop) (ρ : Rho) : sPar i j m ⟨n, r, k, c⟩ ρ = (m ρ fun ds => two ds fun d e => n ((ρ.set i (.val d)).set j (.val e))) := propext Iff.rfl
theorem e_ret (m : ME) (n : Rho → Prop) (r : D → Prop) (k c : Rho → Prop) (ρ : Rho) : sRet m ⟨n, r, k, c⟩ ρ = (m ρ r) := propext Iff.rfl
theorem e_retN (n : Rho → Prop) (r : D → Prop) (k c : Rho → Prop) (ρ : Rho) : sRetN ⟨n, r, k, c⟩ ρ = (r .non) := propext Iff.rfl
theorem e_for (m : MA) (g : MG) (b : MS) (n : Rho → Prop) (r : D → Prop) (k c : Rho → Prop) (ρ : Rho) : sFor m g b ⟨n, r, k, c⟩ ρ = (m ρ fun ds => forM g b ⟨n, r, k, c⟩ ds ρ) := propext Iff.rfl
theorem e_run1 (m : Nat) (s : MS) (x0 : D) (Q : D → Prop) : runM m s [x0] Q = (s ⟨fun _ => Q .non, Q, fun _ => False, fun _ => False⟩ (Slot.val x0 :: List.replicate (m - 1) Slot.no)) := propext Iff.rfl
theorem e_run2 (m : Nat) (s : MS) (x0 x1 : D) (Q : D → Prop) : runM m s [x0, x1] Q = (s ⟨fun _ => Q .non, Q, fun _ => False, fun _ => False⟩ (Slot.val x0 :: Slot.val x1 :: List.replicate (m - 2) Slot.no)) := propext Iff.rfl
theorem e_run3 (m : Nat) (s : MS) (x0 x1 x2 : D) (Q : D → Prop) : runM m s [x0, x1, x2] Q = (s ⟨fun _ => Q .non, Q, fun _ => False, fun _ => False⟩ (Slot.val x0 :: Slot.val x1 :: Slot.val x2 :: List.replicate (m - 3) Slot.no)) := propext Iff.rfl
theorem e_run4 (m : Nat) (s : MS) (x0 x1 x2 x3 : D) (Q : D → Prop) : runM m s [x0, x1, x2, x3] Q = (s ⟨fun _ => Q .non, Q, fun _ => False, fun _ => False⟩ (Slot.val x0 :: Slot.val x1 :: Slot.val x2 :: Slot.val x3 :: List.replicate (m - 4) Slot.no)) := propext Iff.rfl
theorem e_run5 (m : Nat) (s : MS) (x0 x1 x2 x3 x4 : D) (Q : D → Prop) : runM m s [x0, x1, x2, x3, x4] Q = (s ⟨fun _ => Q .non, Q, fun _ => False, fun _ => False⟩ (Slot.val x0 :: Slot.val x1 :: Slot.val x2 :: Slot.val x3 :: Slot.val x4 :: List.replicate (m - 5) Slot.no)) := propext Iff.rfl
theorem e_run6 (m : Nat) (s : MS) (x0 x1 x2 x3 x4 x5 : D) (Q : D → Prop) : runM m s [x0, x1, x2, x3, x4, x5] Q = (s ⟨fun _ => Q .non, Q, fun _ => False, fun _ => False⟩ (Slot.val x0 :: Slot.val x1 :: Slot.val x2 :: Slot.val x3 :: Slot.val x4 :: Slot.val x5 :: List.replicate (m - 6) Slot.no)) := propext Iff.rfl
theorem e_run7 (m : Nat) (s : MS) (x0 x1 x2 x3 x4 x5 x6 : D) (Q : D → Prop) : runM m s [x0, x1, x2, x3, x4, x5, x6] Q = (s ⟨fun _ => Q .non, Q, fun _ => False, fun _ => False⟩ (Slot.val x0 :: Slot.val x1 :: Slot.val x2 :: Slot.val x3 :: Slot.val x4 :: Slot.val x5 :: Slot.val x6 :: List.replicate (m - 7) Slot.no)) := propext Iff.rfl
theorem e_run8 (m : Nat) (s : MS) (x0 x1 x2 x3 x4 x5 x6 x7 : D) (Q : D → Prop) : runM m s [x0, x1, x2, x3, x4, x5, x6, x7] Q = (s ⟨fun _ => Q .non, Q, fun _ => False, fun _ => False⟩ (Slot.val x0 :: Slot.val x1 :: Slot.val x2 :: Slot.val x3 :: Slot.val x4 :: Slot.val x5 :: Slot.val x6 :: Slot.val x7 :: List.replicate (m - 8) Slot.no)) := propext Iff.rfl
theorem e_rep0  : List.replicate 0 Slot.no = (([] : List Slot)) := rfl
theorem e_rep1  : List.replicate 1 Slot.no = ([Slot.no]) := rfl
theorem e_rep2  : List.replicate 2 Slot.no = ([Slot.no, Slot.no]) := rfl
theorem e_rep3  : List.replicate 3 Slot.no = ([Slot.no, Slot.no, Slot.no]) := rfl
theorem e_rep4  : List.replicate 4 Slot.no = ([Slot.no, Slot.no, Slot.no, Slot.no]) := rfl
theorem e_rep5  : List.replicate 5 Slot.no = ([Slot.no, Slot.no, Slot.no, Slot.no, Slot.no]) := rfl
theorem e_rep6  : List.replicate 6 Slot.no = ([Slot.no, Slot.no, Slot.no, Slot.no, Slot.no, Slot.no]) := rfl
theorem e_rep7  : List.replicate 7 Slot.no = ([Slot.no, Slot.no, Slot.no, Slot.no, Slot.no, Slot.no, Slot.no]) := rfl
theorem e_rep8  : List.replicate 8 Slot.no = ([Slot.no, Slot.no, Slot.no, Slot.no, Slot.no, Slot.no, Slot.no, Slot.no]) := rfl
theorem e_rep9  : List.replicate 9 Slot.no = ([Slot.no, Slot.no, Slot.no, Slot.no, Slot.no, Slot.no, Slot.no, Slot.no, Slot.no]) := rfl
theorem e_rep10  : List.replicate 10 Slot.no = ([Slot.no, Slot.no, Slot.no, Slot.no, Slot.no, Slot.no, Slot.no, Slot.no, Slot.no, Slot.no]) := rfl
theorem e_rep11  : List.replicate 11 Slot.no = ([Slot.no, Slot.no, Slot.no, Slot.no, Slot.no, Slot.no, Slot.no, Slot.no, Slot.no, Slot.no, Slot.no]) := rfl
theorem e_rep12  : List.replicate 12 Slot.no = ([Slot.no, Slot.no, Slot.no, Slot.no, Slot.no, Slot.no, Slot.no, Slot.no, Slot.no, Slot.no, Slot.no, Slot.no]) := rfl
theorem e_rep13  : List.replicate 13 Slot.no = ([Slot.no, Slot.no, Slot.no, Slot.no, Slot.no, Slot.no, Slot.no, Slot.no, Slot.no, Slot.no, Slot.no, Slot.no, Slot.no]) := rfl
theorem e_rep14  : List.replicate 14 Slot.no = ([Slot.no, Slot.no, Slot.no, Slot.no, Slot.no, Slot.no, Slot.no, Slot.no, Slot.no, Slot.no, Slot.no, Slot.no, Slot.no, Slot.no]) := rfl
theorem e_rep15  : List.replicate 15 Slot.no = ([Slot.no, Slot.no, Slot.no, Slot.no, Slot.no, Slot.no, Slot.no, Slot.no, Slot.no, Slot.no, Slot.no, Slot.no, Slot.no, Slot.no, Slot.no]) := rfl
theorem e_rep16  : List.replicate 16 Slot.no = ([Slot.no, Slot.no, Slot.no, Slot.no, Slot.no, Slot.no, Slot.no, Slot.no, Slot.no, Slot.no, Slot.no, Slot.no, Slot.no, Slot.no, Slot.no, Slot.no]) := rfl
theorem e_rep17  : List.replicate 17 Slot.no = ([Slot.no, Slot.no, Slot.no, Slot.no, Slot.no, Slot.no, Slot.no, Slot.no, Slot.no, Slot.no, Slot.no, Slot.no, Slot.no, Slot.no, Slot.no, Slot.no, Slot.no]) := rfl
theorem e_rep18  : List.replicate 18 Slot.no = ([Slot.no, Slot.no, Slot.no, Slot.no, Slot.no, Slot.no, Slot.no, Slot.no, Slot.no, Slot.no, Slot.no, Slot.no, Slot.no, Slot.no, Slot.no, Slot.no, Slot.no, Slot.no]) := rfl
theorem e_rep19  : List.replicate 19 Slot.no = ([Slot.no, Slot.no, Slot.no, Slot.no, Slot.no, Slot.no, Slot.no, Slot.no, Slot.no, Slot.no, Slot.no, Slot.no, Slot.no, Slot.no, Slot.no, Slot.no, Slot.no, Slot.no, Slot.no]) := rfl
theorem e_rep20  : List.replicate 20 Slot.no = ([Slot.no, Slot.no, Slot.no, Slot.no, Slot.no, Slot.no, Slot.no, Slot.no, Slot.no, Slot.no, Slot.no, Slot.no, Slot.no, Slot.no, Slot.no, Slot.no, Slot.no, Slot.no, Slot.no, Slot.no]) := rfl
theorem e_rep21  : List.replicate 21 Slot.no = ([Slot.no, Slot.no, Slot.no, Slot.no, Slot.no, Slot.no, Slot.no, Slot.no, Slot.no, Slot.no, Slot.no, Slot.no, Slot.no, Slot.no, Slot.no, Slot.no, Slot.no, Slot.no, Slot.no, Slot.no, Slot.no]) := rfl
theorem e_rep22  : List.replicate 22 Slot.no = ([Slot.no, Slot.no, Slot.no, Slot.no, Slot.no, Slot.no, Slot.no, Slot.no, Slot.no, Slot.no, Slot.no, Slot.no, Slot.no, Slot.no, Slot.no, Slot.no, Slot.no, Slot.no, Slot.no, Slot.no, Slot.no, Slot.no]) := rfl
theorem e_rep23  : List.replicate 23 Slot.no = ([Slot.no, Slot.no, Slot.no, Slot.no, Slot.no, Slot.no, Slot.no, Slot.no, Slot.no, Slot.no, Slot.no, Slot.no, Slot.no, Slot.no, Slot.no, Slot.no, Slot.no, Slot.no, Slot.no, Slot.no, Slot.no, Slot.no, Slot.no]) := rfl
theorem e_rep24  : List.replicate 24 Slot.no = ([Slot.no, Slot.no, Slot.no, Slot.no, Slot.no, Slot.no, Slot.no, Slot.no, Slot.no, Slot.no, Slot.no, Slot.no, Slot.no, Slot.no, Slot.no, Slot.no, Slot.no, Slot.no, Slot.no, Slot.no, Slot.no, Slot.no, Slot.no, Slot.no]) := rfl
theorem e_rep25  : List.replicate 25 Slot.no = ([Slot.no, Slot.no, Slot.no, Slot.no, Slot.no, Slot.no, Slot.no, Slot.no, Slot.no, Slot.no, Slot.no, Slot.no, Slot.no, Slot.no, Slot.no, Slot.no, Slot.no, Slot.no, Slot.no, Slot.no, Slot.no, Slot.no, Slot.no, Slot.no, Slot.no]) := rfl
theorem e_v0 (d : D) (ρ : Rho) (Q : D → Prop) : mVar 0 (Slot.val d :: ρ) Q = (Q d) := propext Iff.rfl
theorem e_s0 (s x : Slot) (ρ : Rho) : List.set (s :: ρ) 0 x = (x :: ρ) := rfl
theorem e_v1 (s0 : Slot) (d : D) (ρ : Rho) (Q : D → Prop) : mVar 1 (s0 :: Slot.val d :: ρ) Q = (Q d) := propext Iff.rfl
theorem e_s1 (s0 : Slot) (s x : Slot) (ρ : Rho) : List.set (s0 :: s :: ρ) 1 x = (s0 :: x :: ρ) := rfl
theorem e_v2 (s0 s1 : Slot) (d : D) (ρ : Rho) (Q : D → Prop) : mVar 2 (s0 :: s1 :: Slot.val d :: ρ) Q = (Q d) := propext Iff.rfl
theorem e_s2 (s0 s1 : Slot) (s x : Slot) (ρ : Rho) : List.set (s0 :: s1 :: s :: ρ) 2 x = (s0 :: s1 :: x :: ρ) := rfl
theorem e_v3 (s0 s1 s2 : Slot) (d : D) (ρ : Rho) (Q : D → Prop) : mVar 3 (s0 :: s1 :: s2 :: Slot.val d :: ρ) Q = (Q d) := propext Iff.rfl
theorem e_s3 (s0 s1 s2 : Slot) (s x : Slot) (ρ : Rho) : List.set (s0 :: s1 :: s2 :: s :: ρ) 3 x = (s0 :: s1 :: s2 :: x :: ρ) := rfl
theorem e_v4 (s0 s1 s2 s3 : Slot) (d : D) (ρ : Rho) (Q : D → Prop) : mVar 4 (s0 :: s1 :: s2 :: s3 :: Slot.val d :: ρ) Q = (Q d) := propext Iff.rfl
theorem e_s4 (s0 s1 s2 s3 : Slot) (s x : Slot) (ρ : Rho) : List.set (s0 :: s1 :: s2 :: s3 :: s :: ρ) 4 x = (s0 :: s1 :: s2 :: s3 :: x :: ρ) := rfl
theorem e_v5 (s0 s1 s2 s3 s4 : Slot) (d : D) (ρ : Rho) (Q : D → Prop) : mVar 5 (s0 :: s1 :: s2 :: s3 :: s4 :: Slot.val d :: ρ) Q = (Q d) := propext Iff.rfl
theorem e_s5 (s0 s1 s2 s3 s4 : Slot) (s x : Slot) (ρ : Rho) : List.set (s0 :: s1 :: s2 :: s3 :: s4 :: s :: ρ) 5 x = (s0 :: s1 :: s2 :: s3 :: s4 :: x :: ρ) := rfl
theorem e_v6 (s0 s1 s2 s3 s4 s5 : Slot) (d : D) (ρ : Rho) (Q : D → Prop) : mVar 6 (s0 :: s1 :: s2 :: s3 :: s4 :: s5 :: Slot.val d :: ρ) Q = (Q d) := propext Iff.rfl
theorem e_s6 (s0 s1 s2 s3 s4 s5 : Slot) (s x : Slot) (ρ : Rho) : List.set (s0 :: s1 :: s2 :: s3 :: s4 :: s5 :: s :: ρ) 6 x = (s0 :: s1 :: s2 :: s3 :: s4 :: s5 :: x :: ρ) := rfl
theorem e_v7 (s0 s1 s2 s3 s4 s5 s6 : Slot) (d : D) (ρ : Rho) (Q : D → Prop) : mVar 7 (s0 :: s1 :: s2 :: s3 :: s4 :: s5 :: s6 :: Slot.val d :: ρ) Q = (Q d) := propext Iff.rfl
theorem e_s7 (s0 s1 s2 s3 s4 s5 s6 : Slot) (s x : Slot) (ρ : Rho) : List.set (s0 :: s1 :: s2 :: s3 :: s4 :: s5 :: s6 :: s :: ρ) 7 x = (s0 :: s1 :: s2 :: s3 :: s4 :: s5 :: s6 :: x :: ρ) := rfl
theorem e_v8 (s0 s1 s2 s3 s4 s5 s6 s7 : Slot) (d : D) (ρ : Rho) (Q : D → Prop) : mVar 8 (s0 :: s1 :: s2 :: s3 :: s4 :: s5 :: s6 :: s7 :: Slot.val d :: ρ) Q = (Q d) := propext Iff.rfl
theorem e_s8 (s0 s1 s2 s3 s4 s5 s6 s7 : Slot) (s x : Slot) (ρ : Rho) : List.set (s0 :: s1 :: s2 :: s3 :: s4 :: s5 :: s6 :: s7 :: s :: ρ) 8 x = (s0 :: s1 :: s2 :: s3 :: s4 :: s5 :: s6 :: s7 :: x :: ρ) := rfl
theorem e_v9 (s0 s1 s2 s3 s4 s5 s6 s7 s8 : Slot) (d : D) (ρ : Rho) (Q : D → Prop) : mVar 9 (s0 :: s1 :: s2 :: s3 :: s4 :: s5 :: s6 :: s7 :: s8 :: Slot.val d :: ρ) Q = (Q d) := propext Iff.rfl
theorem e_s9 (s0 s1 s2 s3 s4 s5 s6 s7 s8 : Slot) (s x : Slot) (ρ : Rho) : List.set (s0 :: s1 :: s2 :: s3 :: s4 :: s5 :: s6 :: s7 :: s8 :: s :: ρ) 9 x = (s0 :: s1 :: s2 :: s3 :: s4 :: s5 :: s6 :: s7 :: s8 :: x :: ρ) := rfl
theorem e_v10 (s0 s1 s2 s3 s4 s5 s6 s7 s8 s9 : Slot) (d : D) (ρ : Rho) (Q : D → Prop) : mVar 10 (s0 :: s1 :: s2 :: s3 :: s4 :: s5 :: s6 :: s7 :: s8 :: s9 :: Slot.val d :: ρ) Q = (Q d) := propext Iff.rfl
theorem e_s10 (s0 s1 s2 s3 s4 s5 s6 s7 s8 s9 : Slot) (s x : Slot) (ρ : Rho) : List.set (s0 :: s1 :: s2 :: s3 :: s4 :: s5 :: s6 :: s7 :: s8 :: s9 :: s :: ρ) 10 x = (s0 :: s1 :: s2 :: s3 :: s4 :: s5 :: s6 :: s7 :: s8 :: s9 :: x :: ρ) := rfl
theorem e_v11 (s0 s1 s2 s3 s4 s5 s6 s7 s8 s9 s10 : Slot) (d : D) (ρ : Rho) (Q : D → Prop) : mVar 11 (s0 :: s1 :: s2 :: s3 :: s4 :: s5 :: s6 :: s7 :: s8 :: s9 :: s10 :: Slot.val d :: ρ) Q = (Q d) := propext Iff.rfl
theorem e_s11 (s0 s1 s2 s3 s4 s5 s6 s7 s8 s9 s10 : Slot) (s x : Slot) (ρ : Rho) : List.set (s0 :: s1 :: s2 :: s3 :: s4 :: s5 :: s6 :: s7 :: s8 :: s9 :: s10 :: s :: ρ) 11 x = (s0 :: s1 :: s2 :: s3 :: s4 :: s5 :: s6 :: s7 :: s8 :: s9 :: s10 :: x :: ρ) := rfl
theorem e_v12 (s0 s1 s2 s3 s4 s5 s6 s7 s8 s9 s10 s11 : Slot) (d : D) (ρ : Rho) (Q : D → Prop) : mVar 12 (s0 :: s1 :: s2 :: s3 :: s4 :: s5 :: s6 :: s7 :: s8 :: s9 :: s10 :: s11 :: Slot.val d :: ρ) Q = (Q d) := propext Iff.rfl
theorem e_s12 (s0 s1 s2 s3 s4 s5 s6 s7 s8 s9 s10 s11 : Slot) (s x : Slot) (ρ : Rho) : List.set (s0 :: s1 :: s2 :: s3 :: s4 :: s5 :: s6 :: s7 :: s8 :: s9 :: s10 :: s11 :: s :: ρ) 12 x = (s0 :: s1 :: s2 :: s3 :: s4 :: s5 :: s6 :: s7 :: s8 :: s9 :: s10 :: s11 :: x :: ρ) := rfl
theorem e_v13 (s0 s1 s2 s3 s4 s5 s6 s7 s8 s9 s10 s11 s12 : Slot) (d : D) (ρ : Rho) (Q : D → Prop) : mVar 13 (s0 :: s1 :: s2 :: s3 :: s4 :: s5 :: s6 :: s7 :: s8 :: s9 :: s10 :: s11 :: s12 :: Slot.val d :: ρ) Q = (Q d) := propext Iff.rfl
theorem e_s13 (s0 s1 s2 s3 s4 s5 s6 s7 s8 s9 s10 s11 s12 : Slot) (s x : Slot) (ρ : Rho) : List.set (s0 :: s1 :: s2 :: s3 :: s4 :: s5 :: s6 :: s7 :: s8 :: s9 :: s10 :: s11 :: s12 :: s :: ρ) 13 x = (s0 :: s1 :: s2 :: s3 :: s4 :: s5 :: s6 :: s7 :: s8 :: s9 :: s10 :: s11 :: s12 :: x :: ρ) := rfl
theorem e_v14 (s0 s1 s2 s3 s4 s5 s6 s7 s8 s9 s10 s11 s12 s13 : Slot) (d : D) (ρ : Rho) (Q : D → Prop) : mVar 14 (s0 :: s1 :: s2 :: s3 :: s4 :: s5 :: s6 :: s7 :: s8 :: s9 :: s10 :: s11 :: s12 :: s13 :: Slot.val d :: ρ) Q = (Q d) := propext Iff.rfl
theorem e_s14 (s0 s1 s2 s3 s4 s5 s6 s7 s8 s9 s10 s11 s12 s13 : Slot) (s x : Slot) (ρ : Rho) : List.set (s0 :: s1 :: s2 :: s3 :: s4 :: s5 :: s6 :: s7 :: s8 :: s9 :: s10 :: s11 :: s12 :: s13 :: s :: ρ) 14 x = (s0 :: s1 :: s2 :: s3 :: s4 :: s5 :: s6 :: s7 :: s8 :: s9 :: s10 :: s11 :: s12 :: s13 :: x :: ρ) := rfl
theorem e_v15 (s0 s1 s2 s3 s4 s5 s6 s7 s8 s9 s10 s11 s12 s13 s14 : Slot) (d : D) (ρ : Rho) (Q : D → Prop) : mVar 15 (s0 :: s1 :: s2 :: s3 :: s4 :: s5 :: s6 :: s7 :: s8 :: s9 :: s10 :: s11 :: s12 :: s13 :: s14 :: Slot.val d :: ρ) Q = (Q d) := propext Iff.rfl
theorem e_s15 (s0 s1 s2 s3 s4 s5 s6 s7 s8 s9 s10 s11 s12 s13 s14 : Slot) (s x : Slot) (ρ : Rho) : List.set (s0 :: s1 :: s2 :: s3 :: s4 :: s5 :: s6 :: s7 :: s8 :: s9 :: s10 :: s11 :: s12 :: s13 :: s14 :: s :: ρ) 15 x = (s0 :: s1 :: s2 :: s3 :: s4 :: s5 :: s6 :: s7 :: s8 :: s9 :: s10 :: s11 :: s12 :: s13 :: s14 :: x :: ρ) := rfl
theorem e_v16 (s0 s1 s2 s3 s4 s5 s6 s7 s8 s9 s10 s11 s12 s13 s14 s15 : Slot) (d : D) (ρ : Rho) (Q : D → Prop) : mVar 16 (s0 :: s1 :: s2 :: s3 :: s4 :: s5 :: s6 :: s7 :: s8 :: s9 :: s10 :: s11 :: s12 :: s13 :: s14 :: s15 :: Slot.val d :: ρ) Q = (Q d) := propext Iff.rfl
theorem e_s16 (s0 s1 s2 s3 s4 s5 s6 s7 s8 s9 s10 s11 s12 s13 s14 s15 : Slot) (s x : Slot) (ρ : Rho) : List.set (s0 :: s1 :: s2 :: s3 :: s4 :: s5 :: s6 :: s7 :: s8 :: s9 :: s10 :: s11 :: s12 :: s13 :: s14 :: s15 :: s :: ρ) 16 x = (s0 :: s1 :: s2 :: s3 :: s4 :: s5 :: s6 :: s7 :: s8 :: s9 :: s10 :: s11 :: s12 :: s13 :: s14 :: s15 :: x :: ρ) := rfl
theorem e_v17 (s0 s1 s2 s3 s4 s5 s6 s7 s8 s9 s10 s11 s12 s13 s14 s15 s16 : Slot) (d : D) (ρ : Rho) (Q : D → Prop) : mVar 17 (s0 :: s1 :: s2 :: s3 :: s4 :: s5 :: s6 :: s7 :: s8 :: s9 :: s10 :: s11 :: s12 :: s13 :: s14 :: s15 :: s16 :: Slot.val d :: ρ) Q = (Q d) := propext Iff.rfl
theorem e_s17 (s0 s1 s2 s3 s4 s5 s6 s7 s8 s9 s10 s11 s12 s13 s14 s15 s16 : Slot) (s x : Slot) (ρ : Rho) : List.set (s0 :: s1 :: s2 :: s3 :: s4 :: s5 :: s6 :: s7 :: s8 :: s9 :: s10 :: s11 :: s12 :: s13 :: s14 :: s15 :: s16 :: s :: ρ) 17 x = (s0 :: s1 :: s2 :: s3 :: s4 :: s5 :: s6 :: s7 :: s8 :: s9 :: s10 :: s11 :: s12 :: s13 :: s14 :: s15 :: s16 :: x :: ρ) := rfl
theorem e_v18 (s0 s1 s2 s3 s4 s5 s6 s7 s8 s9 s10 s11 s12 s13 s14 s15 s16 s17 : Slot) (d : D) (ρ : Rho) (Q : D → Prop) : mVar 18 (s0 :: s1 :: s2 :: s3 :: s4 :: s5 :: s6 :: s7 :: s8 :: s9 :: s10 :: s11 :: s12 :: s13 :: s14 :: s15 :: s16 :: s17 :: Slot.val d :: ρ) Q = (Q d) := propext Iff.rfl
theorem e_s18 (s0 s1 s2 s3 s4 s5 s6 s7 s8 s9 s10 s11 s12 s13 s14 s15 s16 s17 : Slot) (s x : Slot) (ρ : Rho) : List.set (s0 :: s1 :: s2 :: s3 :: s4 :: s5 :: s6 :: s7 :: s8 :: s9 :: s10 :: s11 :: s12 :: s13 :: s14 :: s15 :: s16 :: s17 :: s :: ρ) 18 x = (s0 :: s1 :: s2 :: s3 :: s4 :: s5 :: s6 :: s7 :: s8 :: s9 :: s10 :: s11 :: s12 :: s13 :: s14 :: s15 :: s16 :: s17 :: x :: ρ) := rfl
theorem e_v19 (s0 s1 s2 s3 s4 s5 s6 s7 s8 s9 s10 s11 s12 s13 s14 s15 s16 s17 s18 : Slot) (d : D) (ρ : Rho) (Q : D → Prop) : mVar 19 (s0 :: s1 :: s2 :: s3 :: s4 :: s5 :: s6 :: s7 :: s8 :: s9 :: s10 :: s11 :: s12 :: s13 :: s14 :: s15 :: s16 :: s17 :: s18 :: Slot.val d :: ρ) Q = (Q d) := propext Iff.rfl
theorem e_s19 (s0 s1 s2 s3 s4 s5 s6 s7 s8 s9 s10 s11 s12 s13 s14 s15 s16 s17 s18 : Slot) (s x : Slot) (ρ : Rho) : List.set (s0 :: s1 :: s2 :: s3 :: s4 :: s5 :: s6 :: s7 :: s8 :: s9 :: s10 :: s11 :: s12 :: s13 :: s14 :: s15 :: s16 :: s17 :: s18 :: s :: ρ) 19 x = (s0 :: s1 :: s2 :: s3 :: s4 :: s5 :: s6 :: s7 :: s8 :: s9 :: s10 :: s11 :: s12 :: s13 :: s14 :: s15 :: s16 :: s17 :: s18 :: x :: ρ) := rfl
theorem e_v20 (s0 s1 s2 s3 s4 s5 s6 s7 s8 s9 s10 s11 s12 s13 s14 s15 s16 s17 s18 s19 : Slot) (d : D) (ρ : Rho) (Q : D → Prop) : mVar 20 (s0 :: s1 :: s2 :: s3 :: s4 :: s5 :: s6 :: s7 :: s8 :: s9 :: s10 :: s11 :: s12 :: s13 :: s14 :: s15 :: s16 :: s17 :: s18 :: s19 :: Slot.val d :: ρ) Q = (Q d) := propext Iff.rfl
theorem e_s20 (s0 s1 s2 s3 s4 s5 s6 s7 s8 s9 s10 s11 s12 s13 s14 s15 s16 s17 s18 s19 : Slot) (s x : Slot) (ρ : Rho) : List.set (s0 :: s1 :: s2 :: s3 :: s4 :: s5 :: s6 :: s7 :: s8 :: s9 :: s10 :: s11 :: s12 :: s13 :: s14 :: s15 :: s16 :: s17 :: s18 :: s19 :: s :: ρ) 20 x = (s0 :: s1 :: s2 :: s3 :: s4 :: s5 :: s6 :: s7 :: s8 :: s9 :: s10 :: s11 :: s12 :: s13 :: s14 :: s15 :: s16 :: s17 :: s18 :: s19 :: x :: ρ) := rfl
theorem e_v21 (s0 s1 s2 s3 s4 s5 s6 s7 s8 s9 s10 s11 s12 s13 s14 s15 s16 s17 s18 s19 s20 : Slot) (d : D) (ρ : Rho) (Q : D → Prop) : mVar 21 (s0 :: s1 :: s2 :: s3 :: s4 :: s5 :: s6 :: s7 :: s8 :: s9 :: s10 :: s11 :: s12 :: s13 :: s14 :: s15 :: s16 :: s17 :: s18 :: s19 :: s20 :: Slot.val d :: ρ) Q = (Q d) := propext Iff.rfl
theorem e_s21 (s0 s1 s2 s3 s4 s5 s6 s7 s8 s9 s10 s11 s12 s13 s14 s15 s16 s17 s18 s19 s20 : Slot) (s x : Slot) (ρ : Rho) : List.set (s0 :: s1 :: s2 :: s3 :: s4 :: s5 :: s6 :: s7 :: s8 :: s9 :: s10 :: s11 :: s12 :: s13 :: s14 :: s15 :: s16 :: s17 :: s18 :: s19 :: s20 :: s :: ρ) 21 x = (s0 :: s1 :: s2 :: s3 :: s4 :: s5 :: s6 :: s7 :: s8 :: s9 :: s10 :: s11 :: s12 :: s13 :: s14 :: s15 :: s16 :: s17 :: s18 :: s19 :: s20 :: x :: ρ) := rfl
theorem e_v22 (s0 s1 s2 s3 s4 s5 s6 s7 s8 s9 s10 s11 s12 s13 s14 s15 s16 s17 s18 s19 s20 s21 : Slot) (d : D) (ρ : Rho) (Q : D → Prop) : mVar 22 (s0 :: s1 :: s2 :: s3 :: s4 :: s5 :: s6 :: s7 :: s8 :: s9 :: s10 :: s11 :: s12 :: s13 :: s14 :: s15 :: s16 :: s17 :: s18 :: s19 :: s20 :: s21 :: Slot.val d :: ρ) Q = (Q d) := propext Iff.rfl
theorem e_s22 (s0 s1 s2 s3 s4 s5 s6 s7 s8 s9 s10 s11 s12 s13 s14 s15 s16 s17 s18 s19 s20 s21 : Slot) (s x : Slot) (ρ : Rho) : List.set (s0 :: s1 :: s2 :: s3 :: s4 :: s5 :: s6 :: s7 :: s8 :: s9 :: s10 :: s11 :: s12 :: s13 :: s14 :: s15 :: s16 :: s17 :: s18 :: s19 :: s20 :: s21 :: s :: ρ) 22 x = (s0 :: s1 :: s2 :: s3 :: s4 :: s5 :: s6 :: s7 :: s8 :: s9 :: s10 :: s11 :: s12 :: s13 :: s14 :: s15 :: s16 :: s17 :: s18 :: s19 :: s20 :: s21 :: x :: ρ) := rfl
theorem e_v23 (s0 s1 s2 s3 s4 s5 s6 s7 s8 s9 s10 s11 s12 s13 s14 s15 s16 s17 s18 s19 s20 s21 s22 : Slot) (d : D) (ρ : Rho) (Q : D → Prop) : mVar 23 (s0 :: s1 :: s2 :: s3 :: s4 :: s5 :: s6 :: s7 :: s8 :: s9 :: s10 :: s11 :: s12 :: s13 :: s14 :: s15 :: s16 :: s17 :: s18 :: s19 :: s20 :: s21 :: s22 :: Slot.val d :: ρ) Q = (Q d) := propext Iff.rfl
theorem e_s23 (s0 s1 s2 s3 s4 s5 s6 s7 s8 s9 s10 s11 s12 s13 s14 s15 s16 s17 s18 s19 s20 s21 s22 : Slot) (s x : Slot) (ρ : Rho) : List.set (s0 :: s1 :: s2 :: s3 :: s4 :: s5 :: s6 :: s7 :: s8 :: s9 :: s10 :: s11 :: s12 :: s13 :: s14 :: s15 :: s16 :: s17 :: s18 :: s19 :: s20 :: s21 :: s22 :: s :: ρ) 23 x = (s0 :: s1 :: s2 :: s3 :: s4 :: s5 :: s6 :: s7 :: s8 :: s9 :: s10 :: s11 :: s12 :: s13 :: s14 :: s15 :: s16 :: s17 :: s18 :: s19 :: s20 :: s21 :: s22 :: x :: ρ) := rfl
theorem e_v24 (s0 s1 s2 s3 s4 s5 s6 s7 s8 s9 s10 s11 s12 s13 s14 s15 s16 s17 s18 s19 s20 s21 s22 s23 : Slot) (d : D) (ρ : Rho) (Q : D → Prop) : mVar 24 (s0 :: s1 :: s2 :: s3 :: s4 :: s5 :: s6 :: s7 :: s8 :: s9 :: s10 :: s11 :: s12 :: s13 :: s14 :: s15 :: s16 :: s17 :: s18 :: s19 :: s20 :: s21 :: s22 :: s23 :: Slot.val d :: ρ) Q = (Q d) := propext Iff.rfl
theorem e_s24 (s0 s1 s2 s3 s4 s5 s6 s7 s8 s9 s10 s11 s12 s13 s14 s15 s16 s17 s18 s19 s20 s21 s22 s23 : Slot) (s x : Slot) (ρ : Rho) : List.set (s0 :: s1 :: s2 :: s3 :: s4 :: s5 :: s6 :: s7 :: s8 :: s9 :: s10 :: s11 :: s12 :: s13 :: s14 :: s15 :: s16 :: s17 :: s18 :: s19 :: s20 :: s21 :: s22 :: s23 :: s :: ρ) 24 x = (s0 :: s1 :: s2 :: s3 :: s4 :: s5 :: s6 :: s7 :: s8 :: s9 :: s10 :: s11 :: s12 :: s13 :: s14 :: s15 :: s16 :: s17 :: s18 :: s19 :: s20 :: s21 :: s22 :: s23 :: x :: ρ) := rfl
theorem e_v25 (s0 s1 s2 s3 s4 s5 s6 s7 s8 s9 s10 s11 s12 s13 s14 s15 s16 s17 s18 s19 s20 s21 s22 s23 s24 : Slot) (d : D) (ρ : Rho) (Q : D → Prop) : mVar 25 (s0 :: s1 :: s2 :: s3 :: s4 :: s5 :: s6 :: s7 :: s8 :: s9 :: s10 :: s11 :: s12 :: s13 :: s14 :: s15 :: s16 :: s17 :: s18 :: s19 :: s20 :: s21 :: s22 :: s23 :: s24 :: Slot.val d :: ρ) Q = (Q d) := propext Iff.rfl
theorem e_s25 (s0 s1 s2 s3 s4 s5 s6 s7 s8 s9 s10 s11 s12 s13 s14 s15 s16 s17 s18 s19 s20 s21 s22 s23 s24 : Slot) (s x : Slot) (ρ : Rho) : List.set (s0 :: s1 :: s2 :: s3 :: s4 :: s5 :: s6 :: s7 :: s8 :: s9 :: s10 :: s11 :: s12 :: s13 :: s14 :: s15 :: s16 :: s17 :: s18 :: s19 :: s20 :: s21 :: s22 :: s23 :: s24 :: s :: ρ) 25 x = (s0 :: s1 :: s2 :: s3 :: s4 :: s5 :: s6 :: s7 :: s8 :: s9 :: s10 :: s11 :: s12 :: s13 :: s14 :: s15 :: s16 :: s17 :: s18 :: s19 :: s20 :: s21 :: s22 :: s23 :: s24 :: x :: ρ) := rfl
theorem e_c (d : D) (ρ : Rho) (Q : D → Prop) : mC d ρ Q = (Q d) := propext Iff.rfl
theorem e_bin (f : D → D → MD) (a b : ME) (ρ : Rho) (Q : D → Prop) : mBin f a b ρ Q = (a ρ fun x => b ρ fun y => f x y Q) := propext Iff.rfl
theorem e_un (f : D → MD) (a : ME) (ρ : Rho) (Q : D → Prop) : mUn f a ρ Q = (a ρ fun x => f x Q) := propext Iff.rfl
theorem e_test (a : ME) (ρ : Rho) (Q : Bool → Prop) : mTest a ρ Q = (a ρ fun d => asBl d Q) := propext Iff.rfl
theorem e_tru (a : ME) (ρ : Rho) (Q : Bool → Prop) : mTru a ρ Q = (a ρ fun d => tru d Q) := propext Iff.rfl
theorem e_and (s t : MT) (ρ : Rho) (Q : Bool → Prop) : mAnd s t ρ Q = (s ρ fun b => if b = true then t ρ Q else Q false) := propext Iff.rfl
theorem e_or (s t : MT) (ρ : Rho) (Q : Bool → Prop) : mOr s t ρ Q = (s ρ fun b => if b = true then Q true else t ρ Q) := propext Iff.rfl
theorem e_not (s : MT) (ρ : Rho) (Q : Bool → Prop) : mNot s ρ Q = (s ρ fun b => Q (!b)) := propext Iff.rfl
theorem e_yes (ρ : Rho) (Q : Bool → Prop) : mYes ρ Q = (Q true) := propext Iff.rfl
theorem e_andV (s t : ME) (ρ : Rho) (Q : D → Prop) : mAndV s t ρ Q = (s ρ fun d => asBl d fun b => if b = true then t ρ Q else Q (.bl false)) := propext Iff.rfl
theorem e_orV (s t : ME) (ρ : Rho) (Q : D → Prop) : mOrV s t ρ Q = (s ρ fun d => asBl d fun b => if b = true then Q (.bl true) else t ρ Q) := propext Iff.rfl
theorem e_notV (s : ME) (ρ : Rho) (Q : D → Prop) : mNotV s ρ Q = (s ρ fun d => asBl d fun b => Q (.bl (!b))) := propext Iff.rfl
theorem e_orT (s t : ME) (ρ : Rho) (Q : D → Prop) : mOrT s t ρ Q = (s ρ fun d => tru d fun b => if b = true then Q d else t ρ Q) := propext Iff.rfl
theorem e_andT (s t : ME) (ρ : Rho) (Q : D → Prop) : mAndT s t ρ Q = (s ρ fun d => tru d fun b => if b = true then t ρ Q else Q d) := propext Iff.rfl
theorem e_if (x : MT) (s t : ME) (ρ : Rho) (Q : D → Prop) : mIf x s t ρ Q = (x ρ fun b => if b = true then s ρ Q else t ρ Q) := propext Iff.rfl
theorem e_nil (ρ : Rho) (Q : List D → Prop) : mNil ρ Q = (Q []) := propext Iff.rfl
theorem e_cons (s : ME) (t : MA) (ρ : Rho) (Q : List D → Prop) : mCons s t ρ Q = (s ρ fun d => t ρ fun ds => Q (d :: ds)) := propext Iff.rfl
theorem e_tup (m : MA) (ρ : Rho) (Q : D → Prop) : mTup m ρ Q = (m ρ fun ds => ds.length ≤ sizeLine ∧ Q (.tup ds)) := propext Iff.rfl
theorem e_lst (m : MA) (ρ : Rho) (Q : D → Prop) : mLst m ρ Q = (m ρ fun ds => ds.length ≤ sizeLine ∧ Q (.lst ds)) := propext Iff.rfl
theorem e_call (f : List D → MD) (m : MA) (ρ : Rho) (Q : D → Prop) : mCall f m ρ Q = (m ρ fun ds => f ds Q) := propext Iff.rfl
theorem e_fn (n : Nat) (f : List D → MD) (m : MA) (ρ : Rho) (Q : D → Prop) : mFn n f [] m ρ Q = (m ρ fun ds => ds.length = n ∧ f ds Q) := by
  unfold mFn; simp only [List.append_nil]
theorem e_chain (f g : D → D → MD) (a b x : ME) (ρ : Rho) (Q : D → Prop) : mChain f g a b x ρ Q = (a ρ fun x0 => b ρ fun y => f x0 y fun z => asBl z fun k => if k = true then x ρ fun w => g y w Q else Q (.bl false)) := propext Iff.rfl
theorem e_noP (ρ : Rho) (Q : Option Int → Prop) : mNoPart ρ Q = (Q none) := propext Iff.rfl
theorem e_part (m : ME) (ρ : Rho) (Q : Option Int → Prop) : mPart m ρ Q = (m ρ fun d => asInt d fun i => Q (some i)) := propext Iff.rfl
theorem e_sl (f : D → Option Int → Option Int → MD) (m : ME) (l h : MO) (ρ : Rho) (Q : D → Prop) : mSl f m l h ρ Q = (m ρ fun d => l ρ fun i => h ρ fun j => f d i j Q) := propext Iff.rfl
theorem e_m1 (f : D → D → MD) (a b : ME) (ρ : Rho) (Q : D → Prop) : mM1 f a b ρ Q = (a ρ fun x => asStr x fun z => b ρ fun y => f (.str z) y Q) := propext Iff.rfl
theorem e_m0 (f : D → MD) (a : ME) (ρ : Rho) (Q : D → Prop) : mM0 f a ρ Q = (a ρ fun x => asStr x fun z => f (.str z) Q) := propext Iff.rfl
theorem e_gv (i : Nat) (d : D) (ρ : Rho) (Q : Rho → Prop) : gvName i d ρ Q = (Q (ρ.set i (.val d))) := propext Iff.rfl
theorem e_gt (n : Nat) (m : MGs) (ds : List D) (ρ : Rho) (Q : Rho → Prop) : gvTup n m (.tup ds) ρ Q = (ds.length = n ∧ m ds ρ Q) := propext Iff.rfl
theorem e_gc (m : MG) (ms : MGs) (d : D) (ds : List D) (ρ : Rho) (Q : Rho → Prop) : gvCons m ms (d :: ds) ρ Q = (m d ρ fun ρ' => ms ds ρ' Q) := propext Iff.rfl
theorem e_gn (ρ : Rho) (Q : Rho → Prop) : gvNil [] ρ Q = (Q ρ) := propext Iff.rfl
theorem e_lc (mi : MA) (mg : MG) (mt : MT) (me : ME) (vs : List Nat) (ρ : Rho) (Q : D → Prop) : mLc mi mg mt me vs ρ Q = (mi ρ fun ds => ds.length ≤ sizeLine ∧ compM mg mt me (wipeR ρ vs) ds fun out => Q (.lst out)) := propext Iff.rfl
theorem e_w0 (ρ : Rho) : wipeR ρ [] = (ρ) := rfl
theorem e_w1 (ρ : Rho) (v : Nat) (vs : List Nat) : wipeR ρ (v :: vs) = ((wipeR ρ vs).set v .no) := rfl
theorem e_list (m : ME) (ρ : Rho) (Q : List D → Prop) : miList m ρ Q = (m ρ fun d => asLst d Q) := propext Iff.rfl
theorem e_tupI (m : ME) (ρ : Rho) (Q : List D → Prop) : miTup m ρ Q = (m ρ fun d => asTup d Q) := propext Iff.rfl
theorem e_strI (m : ME) (ρ : Rho) (Q : List D → Prop) : miStr m ρ Q = (m ρ fun d => asStr d fun x => Q (chars x)) := propext Iff.rfl
theorem var_at {ρ : Rho} {i : Nat} {d : D} {Q : D → Prop} (h : ρ[i]? = some (Slot.val d)) : mVar i ρ Q = Q d := by unfold mVar; rw [h]
theorem asBl_bl (b : Bool) (Q : Bool → Prop) : asBl (.bl b) Q = Q b := propext Iff.rfl
theorem tru_bl (b : Bool) (Q : Bool → Prop) : tru (.bl b) Q = Q b := propext Iff.rfl
theorem tru_int (b : Int) (Q : Bool → Prop) : tru (.int b) Q = Q (b != 0) := propext Iff.rfl
theorem tru_lst (b : List D) (Q : Bool → Prop) : tru (.lst b) Q = Q (!b.isEmpty) := propext Iff.rfl
theorem tru_tup (b : List D) (Q : Bool → Prop) : tru (.tup b) Q = Q (!b.isEmpty) := propext Iff.rfl
theorem len_lst (b : List D) (Q : D → Prop) : lenF [.lst b] Q = Q (.int b.length) := propext Iff.rfl
theorem len_tup (b : List D) (Q : D → Prop) : lenF [.tup b] Q = Q (.int b.length) := propext Iff.rfl
theorem len_str (b : Str) (Q : D → Prop) : lenF [.str b] Q = (b.length ≤ sizeLine ∧ Q (.int b.length)) := propext Iff.rfl
theorem add_int' (i j : Int) (Q : D → Prop) : addF (.int i) (.int j) Q = Q (.int (i + j)) := propext Iff.rfl
theorem sub_int' (i j : Int) (Q : D → Prop) : subF (.int i) (.int j) Q = Q (.int (i - j)) := propext Iff.rfl
theorem lt_int' (i j : Int) (Q : D → Prop) : ltF (.int i) (.int j) Q = Q (.bl (decide (i < j))) := propext Iff.rfl
theorem le_int' (i j : Int) (Q : D → Prop) : leF (.int i) (.int j) Q = Q (.bl (decide (i ≤ j))) := propext Iff.rfl
theorem gt_int' (i j : Int) (Q : D → Prop) : gtF (.int i) (.int j) Q = Q (.bl (decide (j < i))) := propext Iff.rfl
theorem ge_int' (i j : Int) (Q : D → Prop) : geF (.int i) (.int j) Q = Q (.bl (decide (j ≤ i))) := propext Iff.rfl
theorem sh_int (i : Int) : sh (.int i) = true := by unfold sh; simp only [D.pl, D.py, Bool.true_and]; rfl
theorem sh_bl (i : Bool) : sh (.bl i) = true := by unfold sh; simp only [D.pl, D.py, Bool.true_and]; rfl
theorem sh_non : sh .non = true := by unfold sh; simp only [D.pl, D.py, Bool.true_and]; rfl
theorem eqv_int (i j : Int) : eqv (.int i) (.int j) = (i == j) := by unfold eqv; simp only [D.py, PyData.eqv]
theorem eqv_bl (i j : Bool) : eqv (.bl i) (.bl j) = (i == j) := by unfold eqv; simp only [D.py, PyData.eqv]
theorem eq_int' (i j : Int) (Q : D → Prop) : eqF (.int i) (.int j) Q = Q (.bl (i == j)) := by
  show (sh (.int i) = true ∧ sh (.int j) = true ∧ Q (.bl (eqv (.int i) (.int j)))) = _
  rw [sh_int, sh_int, eqv_int]; simp
theorem ne_int' (i j : Int) (Q : D → Prop) : neF (.int i) (.int j) Q = Q (.bl (!(i == j))) := by
  show (sh (.int i) = true ∧ sh (.int j) = true ∧ Q (.bl (!eqv (.int i) (.int j)))) = _
  rw [sh_int, sh_int, eqv_int]; simp
theorem eq_str' (i j : Str) (Q : D → Prop) : eqF (.str i) (.str j) Q = Q (.bl (i == j)) := propext Iff.rfl
theorem ne_str' (i j : Str) (Q : D → Prop) : neF (.str i) (.str j) Q = Q (.bl (!(i == j))) := propext Iff.rfl
theorem asStr_str (b : Str) (Q : Str → Prop) : asStr (.str b) Q = Q b := propext Iff.rfl
theorem asInt_int (b : Int) (Q : Int → Prop) : asInt (.int b) Q = Q b := propext Iff.rfl
theorem asLst_lst (b : List D) (Q : List D → Prop) : asLst (.lst b) Q = Q b := propext Iff.rfl
theorem asTup_tup (b : List D) (Q : List D → Prop) : asTup (.tup b) Q = Q b := propext Iff.rfl
theorem tru_str (x : Str) (Q : Bool → Prop) : tru (.str x) Q = (x.length ≤ sizeLine ∧ Q ((x.length : Int) != 0)) := propext Iff.rfl
theorem add_str' (i j : Str) (Q : D → Prop) : addF (.str i) (.str j) Q = (i.length + j.length ≤ sizeLine ∧ Q (.str (i ++ j))) := propext Iff.rfl
theorem add_lst' (i j : List D) (Q : D → Prop) : addF (.lst i) (.lst j) Q = (i.length + j.length ≤ sizeLine ∧ Q (.lst (i ++ j))) := propext Iff.rfl
theorem add_tup' (i j : List D) (Q : D → Prop) : addF (.tup i) (.tup j) Q = (i.length + j.length ≤ sizeLine ∧ Q (.tup (i ++ j))) := propext Iff.rfl
theorem mul_int' (i j : Int) (Q : D → Prop) : mulF (.int i) (.int j) Q = (i.natAbs.log2 + j.natAbs.log2 < 1000000 ∧ Q (.int (i * j))) := propext Iff.rfl
theorem mul_str' (a : Str) (n : Int) (Q : D → Prop) : mulF (.str a) (.int n) Q = ((0 ≤ n ∧ n ≤ 10000 ∧ a.length ≤ 1000) ∧ Q (.str (repS a n.toNat))) := propext Iff.rfl
theorem mod_int'' (i j : Int) (Q : D → Prop) : modF (.int i) (.int j) Q = (0 < j ∧ Q (.int (i % j))) := propext Iff.rfl
theorem div_int' (i j : Int) (Q : D → Prop) : divF (.int i) (.int j) Q = ((0 < j ∧ j.natAbs.log2 < 9000) ∧ Q (.int (i / j))) := propext Iff.rfl
theorem ix_lst' (xs : List D) (i : Int) (Q : D → Prop) : ixF (.lst xs) (.int i) Q = someD (atI xs i) Q := propext Iff.rfl
theorem ix_tup' (xs : List D) (i : Int) (Q : D → Prop) : ixF (.tup xs) (.int i) Q = someD (atI xs i) Q := propext Iff.rfl
theorem ix_str' (z : Str) (i : Int) (Q : D → Prop) : ixF (.str z) (.int i) Q = (z.length ≤ sizeLine ∧ someD (atI z.cps.toList i) fun c => Q (.str ⟨#[c]⟩)) := propext Iff.rfl
theorem sl_lst' (xs : List D) (lo hi : Option Int) (Q : D → Prop) : slF (.lst xs) lo hi Q = Q (.lst (cutD xs lo hi)) := propext Iff.rfl
theorem sl_tup' (xs : List D) (lo hi : Option Int) (Q : D → Prop) : slF (.tup xs) lo hi Q = Q (.tup (cutD xs lo hi)) := propext Iff.rfl
theorem sl_str' (z : Str) (lo hi : Option Int) (Q : D → Prop) : slF (.str z) lo hi Q = (z.length ≤ sizeLine ∧ Q (.str (Txt.slice z lo hi))) := propext Iff.rfl
theorem at0 {α : Type} (x0 : α) (xs : List α) : atI (x0 :: xs) 0 = some x0 := atI_nat (j := 0) rfl
theorem at1 {α : Type} (x0 x1 : α) (xs : List α) : atI (x0 :: x1 :: xs) 1 = some x1 := atI_nat (j := 1) rfl
theorem at2 {α : Type} (x0 x1 x2 : α) (xs : List α) : atI (x0 :: x1 :: x2 :: xs) 2 = some x2 := atI_nat (j := 2) rfl
theorem at3 {α : Type} (x0 x1 x2 x3 : α) (xs : List α) : atI (x0 :: x1 :: x2 :: x3 :: xs) 3 = some x3 := atI_nat (j := 3) rfl
theorem at4 {α : Type} (x0 x1 x2 x3 x4 : α) (xs : List α) : atI (x0 :: x1 :: x2 :: x3 :: x4 :: xs) 4 = some x4 := atI_nat (j := 4) rfl
theorem at5 {α : Type} (x0 x1 x2 x3 x4 x5 : α) (xs : List α) : atI (x0 :: x1 :: x2 :: x3 :: x4 :: x5 :: xs) 5 = some x5 := atI_nat (j := 5) rfl
theorem at6 {α : Type} (x0 x1 x2 x3 x4 x5 x6 : α) (xs : List α) : atI (x0 :: x1 :: x2 :: x3 :: x4 :: x5 :: x6 :: xs) 6 = some x6 := atI_nat (j := 6) rfl
theorem at7 {α : Type} (x0 x1 x2 x3 x4 x5 x6 x7 : α) (xs : List α) : atI (x0 :: x1 :: x2 :: x3 :: x4 :: x5 :: x6 :: x7 :: xs) 7 = some x7 := atI_nat (j := 7) rfl
theorem neg_int' (i : Int) (Q : D → Prop) : negF (.int i) Q = Q (.int (-i)) := propext Iff.rfl
theorem int_int' (i : Int) (Q : D → Prop) : intF [.int i] Q = Q (.int i) := propext Iff.rfl
theorem int_bl' (b : Bool) (Q : D → Prop) : intF [.bl b] Q = Q (.int (if b then 1 else 0)) := propext Iff.rfl
theorem tupF_lst (xs : List D) (Q : D → Prop) : tupF [.lst xs] Q = Q (.tup xs) := propext Iff.rfl
theorem tupF_tup (xs : List D) (Q : D → Prop) : tupF [.tup xs] Q = Q (.tup xs) := propext Iff.rfl
theorem lstF_lst (xs : List D) (Q : D → Prop) : lstF [.lst xs] Q = Q (.lst xs) := propext Iff.rfl
theorem lstF_tup (xs : List D) (Q : D → Prop) : lstF [.tup xs] Q = Q (.lst xs) := propext Iff.rfl
theorem is_bl' (a b : Bool) (Q : D → Prop) : isF (.bl a) (.bl b) Q = Q (.bl (decide (a = b))) := propext Iff.rfl
theorem not_bl' (a b : Bool) (Q : D → Prop) : notF (.bl a) (.bl b) Q = Q (.bl (!decide (a = b))) := propext Iff.rfl
theorem take_eq (n : Int) (Q : D → Prop) : takeM [.bag, .int n] Q = ((0 < n ∧ n.natAbs.log2 < 9000) ∧ ∀ r : Int, 0 ≤ r → r < n → Q (.int r)) := propext Iff.rfl
theorem some_some {α : Type} (d : α) (Q : α → Prop) : someD (some d) Q = Q d := propext Iff.rfl
theorem two_eq (d e : D) (Q : D → D → Prop) : two [d, e] Q = Q d e := propext Iff.rfl
theorem rng1_eq (n : Int) (m : MA) (ρ : Rho) (Q : List D → Prop) (h : m = fun _ q => q [.int n]) : miRng1 m ρ Q = (n < 2 ^ 62 ∧ -(2 ^ 62) ≤ n ∧ Q (upTo n.toNat)) := by subst h; rfl
theorem log_small {n : Int} (h0 : 0 < n) (h : n < 2 ^ 200) : n.natAbs.log2 < 9000 := by
  have h1 : n.natAbs < 2 ^ 200 := by omega
  have : n.natAbs.log2 < 200 := (Nat.log2_lt (by omega)).mpr h1
  omega
/-! data that is a tuple of texts -/
def txs (xs : List Str) : D := .tup (xs.map D.str)
theorem py_strs : ∀ xs : List Str, D.pyAll (xs.map D.str) = xs.map PyData.str
  | [] => by simp only [List.map_nil, D.pyAll]
  | x :: xs => by simp only [List.map_cons, D.pyAll, D.py, py_strs xs]
theorem pl_strs : ∀ xs : List Str, D.plAll (xs.map D.str) = true
  | [] => by simp only [List.map_nil, D.plAll]
  | x :: xs => by simp only [List.map_cons, D.plAll, D.pl, pl_strs xs, Bool.and_self]
theorem canLay_strs : ∀ xs : List Str, (∀ x ∈ xs, PyData.strOk x = true) → PyData.canLayAll0 (xs.map PyData.str) = true
  | [], _ => by simp only [List.map_nil, PyData.canLayAll0]
  | x :: xs, h => by simp only [List.map_cons, PyData.canLayAll0, PyData.canLay0, h x List.mem_cons_self, canLay_strs xs (fun y hy => h y (List.mem_cons_of_mem _ hy)), Bool.and_self]
theorem depth_strs : ∀ xs : List Str, PyData.depthAll (xs.map PyData.str) = 0
  | [] => by simp only [List.map_nil, PyData.depthAll]
  | x :: xs => by simp only [List.map_cons, PyData.depthAll, PyData.depth, depth_strs xs, Nat.max_self]
theorem sh_txs (xs : List Str) (h : ∀ x ∈ xs, PyData.strOk x = true) : sh (txs xs) = true := by
  unfold sh txs
  simp only [D.pl, D.py, pl_strs, py_strs, Bool.true_and]
  unfold SeqAt.shaped
  simp only [PyData.canLay0, PyData.depth, canLay_strs xs h, depth_strs, Bool.true_and]
  decide
theorem eqvAll_strs : ∀ xs ys : List Str, PyData.eqvAll (xs.map PyData.str) (ys.map PyData.str) = decide (xs = ys)
  | [], [] => by simp [PyData.eqvAll]
  | [], y :: ys => by simp [PyData.eqvAll]
  | x :: xs, [] => by simp [PyData.eqvAll]
  | x :: xs, y :: ys => by
    simp only [List.map_cons, PyData.eqvAll, PyData.eqv, eqvAll_strs xs ys]
    by_cases h : x = y
    · subst h; simp
    · simp [h]
theorem eqv_txs (xs ys : List Str) : eqv (txs xs) (txs ys) = decide (xs = ys) := by
  unfold eqv txs
  simp only [D.py, PyData.eqv, py_strs, eqvAll_strs]
theorem eq_txs (xs ys : List Str) (Q : D → Prop) (h1 : ∀ x ∈ xs, PyData.strOk x = true) (h2 : ∀ x ∈ ys, PyData.strOk x = true) : eqF (txs xs) (txs ys) Q = Q (.bl (decide (xs = ys))) := by
  show (sh (txs xs) = true ∧ sh (txs ys) = true ∧ Q (.bl (eqv (txs xs) (txs ys)))) = _
  rw [sh_txs xs h1, sh_txs ys h2, eqv_txs]; simp
/-! comprehensions -/
theorem comp_map {me : ME} {ρ : Rho} {j : Nat} (f : D → D) : ∀ (ds : List D) (Q : List D → Prop), (∀ d ∈ ds, ∀ Q : D → Prop, Q (f d) → me (ρ.set j (.val d)) Q) → Q (ds.map f) → compM (gvName j) mYes me ρ ds Q
  | [], Q, _, q => q
  | d :: ds, Q, h, q => by
    show me (ρ.set j (.val d)) fun y => compM (gvName j) mYes me ρ ds fun ys => Q (y :: ys)
    exact h d List.mem_cons_self _ (comp_map f ds _ (fun e he => h e (List.mem_cons_of_mem _ he)) q)
theorem comp_all {me : ME} {ρ : Rho} {j : Nat} (P : D → Prop) : ∀ (ds : List D) (Q : List D → Prop), (∀ d ∈ ds, ∀ Q : D → Prop, (∀ y, P y → Q y) → me (ρ.set j (.val d)) Q) → (∀ ys : List D, ys.length = ds.length → (∀ y ∈ ys, P y) → Q ys) → compM (gvName j) mYes me ρ ds Q
  | [], Q, _, q => q [] rfl (by simp)
  | d :: ds, Q, h, q => by
    show me (ρ.set j (.val d)) fun y => compM (gvName j) mYes me ρ ds fun ys => Q (y :: ys)
    refine h d List.mem_cons_self _ fun y hy => comp_all P ds _ (fun e he => h e (List.mem_cons_of_mem _ he)) fun ys hl hys => q (y :: ys) (by simp [hl]) fun z hz => ?_
    rcases List.mem_cons.mp hz with e | hz
    · rw [e]; exact hy
    · exact hys z hz
theorem comp_filter {mt : MT} {me : ME} {ρ : Rho} {j : Nat} (p : D → Bool) (f : D → D) : ∀ (ds : List D) (Q : List D → Prop), (∀ d ∈ ds, ∀ Q : Bool → Prop, Q (p d) → mt (ρ.set j (.val d)) Q) → (∀ d ∈ ds, p d = true → ∀ Q : D → Prop, Q (f d) → me (ρ.set j (.val d)) Q) →
    Q ((ds.filter p).map f) → compM (gvName j) mt me ρ ds Q
  | [], Q, _, _, q => q
  | d :: ds, Q, h1, h2, q => by
    show mt (ρ.set j (.val d)) fun b => if b = true then me (ρ.set j (.val d)) (fun y => compM (gvName j) mt me ρ ds fun ys => Q (y :: ys)) else compM (gvName j) mt me ρ ds Q
    refine h1 d List.mem_cons_self _ ?_
    have t1 : ∀ e ∈ ds, ∀ Q : Bool → Prop, Q (p e) → mt (ρ.set j (.val e)) Q := fun e he => h1 e (List.mem_cons_of_mem _ he)
    have t2 : ∀ e ∈ ds, p e = true → ∀ Q : D → Prop, Q (f e) → me (ρ.set j (.val e)) Q := fun e he => h2 e (List.mem_cons_of_mem _ he)
    cases e : p d with
    | true =>
      rw [if_pos rfl]
      rw [List.filter_cons_of_pos e] at q
      exact h2 d List.mem_cons_self e _ (comp_filter p f ds _ t1 t2 q)
    | false =>
      rw [if_neg Bool.false_ne_true]
      rw [List.filter_cons_of_neg (by rw [e]; simp)] at q
      exact comp_filter p f ds _ t1 t2 q
theorem comp_mapL {α : Type} {me : ME} {ρ : Rho} {j : Nat} (g f : α → D) : ∀ (l : List α) (Q : List D → Prop), (∀ a ∈ l, ∀ Q : D → Prop, Q (f a) → me (ρ.set j (.val (g a))) Q) → Q (l.map f) → compM (gvName j) mYes me ρ (l.map g) Q
  | [], Q, _, q => q
  | d :: ds, Q, h, q => by
    show me (ρ.set j (.val (g d))) fun y => compM (gvName j) mYes me ρ (ds.map g) fun ys => Q (y :: ys)
    exact h d List.mem_cons_self _ (comp_mapL g f ds _ (fun e he => h e (List.mem_cons_of_mem _ he)) q)
theorem comp_filterL {α : Type} {mt : MT} {me : ME} {ρ : Rho} {j : Nat} (g f : α → D) (p : α → Bool) : ∀ (l : List α) (Q : List D → Prop), (∀ a ∈ l, ∀ Q : Bool → Prop, Q (p a) → mt (ρ.set j (.val (g a))) Q) → (∀ a ∈ l, p a = true → ∀ Q : D → Prop, Q (f a) → me (ρ.set j (.val (g a))) Q) →
    Q ((l.filter p).map f) → compM (gvName j) mt me ρ (l.map g) Q
  | [], Q, _, _, q => q
  | d :: ds, Q, h1, h2, q => by
    show mt (ρ.set j (.val (g d))) fun b => if b = true then me (ρ.set j (.val (g d))) (fun y => compM (gvName j) mt me ρ (ds.map g) fun ys => Q (y :: ys)) else compM (gvName j) mt me ρ (ds.map g) Q
    refine h1 d List.mem_cons_self _ ?_
    have t1 : ∀ e ∈ ds, ∀ Q : Bool → Prop, Q (p e) → mt (ρ.set j (.val (g e))) Q := fun e he => h1 e (List.mem_cons_of_mem _ he)
    have t2 : ∀ e ∈ ds, p e = true → ∀ Q : D → Prop, Q (f e) → me (ρ.set j (.val (g e))) Q := fun e he => h2 e (List.mem_cons_of_mem _ he)
    cases e : p d with
    | true =>
      rw [if_pos rfl]
      rw [List.filter_cons_of_pos e] at q
      exact h2 d List.mem_cons_self e _ (comp_filterL g f p ds _ t1 t2 q)
    | false =>
      rw [if_neg Bool.false_ne_true]
      rw [List.filter_cons_of_neg (by rw [e]; simp)] at q
      exact comp_filterL g f p ds _ t1 t2 q
/-- each made thing is some (h a) with P -/
theorem comp_allL {α β : Type} {me : ME} {ρ : Rho} {j : Nat} (g : α → D) (h : β → D) (P : β → Prop) : ∀ (l : List α) (Q : List D → Prop), (∀ a ∈ l, ∀ Q : D → Prop, (∀ y, P y → Q (h y)) → me (ρ.set j (.val (g a))) Q) →
    (∀ ys : List β, ys.length = l.length → (∀ y ∈ ys, P y) → Q (ys.map h)) → compM (gvName j) mYes me ρ (l.map g) Q
  | [], Q, _, q => q [] rfl (by simp)
  | d :: ds, Q, hh, q => by
    show me (ρ.set j (.val (g d))) fun y => compM (gvName j) mYes me ρ (ds.map g) fun ys => Q (y :: ys)
    refine hh d List.mem_cons_self _ fun y hy => comp_allL g h P ds _ (fun e he => hh e (List.mem_cons_of_mem _ he)) fun ys hl hys => q (y :: ys) (by simp [hl]) fun z hz => ?_
    rcases List.mem_cons.mp hz with e | hz
    · rw [e]; exact hy
    · exact hys z hz
theorem size_le {n : Nat} (h : n ≤ 100000) : n ≤ sizeLine := Nat.le_trans h (by decide)
/-! loops: an invariant over what is left -/
theorem for_inv {mg : MG} {mb : MS} {Z : Ed} (I : List D → Rho → Prop) : ∀ (ds : List D) (ρ : Rho), I ds ρ → (∀ ρ, I [] ρ → Z.nx ρ) →
    (∀ d ds ρ (N : Rho → Prop), I (d :: ds) ρ → (∀ ρ', I ds ρ' → N ρ') → mg d ρ fun ρ1 => mb { nx := N, rt := Z.rt, bk := Z.nx, ct := N } ρ1) → forM mg mb Z ds ρ
  | [], ρ, h, h0, _ => h0 ρ h
  | d :: ds, ρ, h, h0, hs => hs d ds ρ _ h fun ρ' h' => for_inv I ds ρ' h' h0 hs
theorem up_len (n : Nat) : (upTo n).length = n := by simp [upTo]
theorem mem_up {n : Nat} {d : D} (h : d ∈ upTo n) : ∃ i : Nat, i < n ∧ d = .int (i : Int) := by
  obtain ⟨i, hi, rfl⟩ := List.mem_map.mp h
  exact ⟨i, List.mem_range.mp hi, rfl⟩
theorem atI_int {α : Type} {xs : List α} {i : Int} {v : α} (h0 : 0 ≤ i) (h : xs[i.toNat]? = some v) : atI xs i = some v := by
  have := atI_nat h
  rwa [Int.toNat_of_nonneg h0] at this
theorem cut_to (xs : List D) (n : Int) (h : 0 ≤ n) : cutD xs none (some n) = xs.take n.toNat := by
  obtain ⟨k, rfl⟩ : ∃ k : Nat, n = (k : Int) := ⟨n.toNat, by omega⟩
  unfold cutD
  rw [HT.sIx_none, HT.sIx_nat]
  simp only [List.drop_zero, Nat.sub_zero, Int.toNat_natCast]
  by_cases hk : k ≤ xs.length
  · rw [Nat.min_eq_left hk]
  · rw [Nat.min_eq_right (by omega), List.take_of_length_le (Nat.le_refl _), List.take_of_length_le (by omega)]
theorem cut_from (xs : List D) (n : Int) (h : 0 ≤ n) : cutD xs (some n) none = xs.drop n.toNat := by
  obtain ⟨k, rfl⟩ : ∃ k : Nat, n = (k : Int) := ⟨n.toNat, by omega⟩
  unfold cutD
  rw [HT.sIx_none, HT.sIx_nat]
  simp only [Int.toNat_natCast]
  by_cases hk : k ≤ xs.length
  · rw [Nat.min_eq_left hk, List.take_of_length_le (by simp)]
  · rw [Nat.min_eq_right (by omega), List.drop_eq_nil_of_le (Nat.le_refl _), List.drop_eq_nil_of_le (by omega)]; simp
end Dz

namespace Dz
open PySem PySem.Spec PyProof.Rows L2
theorem wp_asIndex {M : Model} {A : Around} {E : Value → Shared → Prop} {s : Shared} {x : Int} {u : Tok} {Q : Int → Shared → Prop} (h : Q x s) : wpAny M A (asIndex (.int x u)) Q E s := by
  refine wpAny_bind (m := asInt? (.int x u)) ?_
  refine wpAny_pure (a := some x) ?_
  exact wpAny_pure h
theorem wp_items {M : Model} {A : Around} {E : Value → Shared → Prop} {s : Shared} {l : Addr} {items : Array Value} {n : Nat} {dd : Option Addr} {sl : Array (Option Value)} {Q : Array Value → Shared → Prop} (ho : s.heap.get? l = some ⟨.type "tuple", dd, .seq items n, sl⟩) (h : Q items s) : wpAny M A (Builtin.Tuple.tupleItemsOf (.ref l)) Q E s := by
  cases s
  refine wpAny_bind (m := seqItems? (.ref l)) ?_
  refine wpAny_bind (m := load l) ?_
  refine wpAny_load' ho ?_
  refine wpAny_pure (a := some items) ?_
  exact wpAny_pure h
theorem wp_exact {M : Model} {A : Around} {E : Value → Shared → Prop} {s : Shared} {l : Addr} {o : Obj} {Q : Bool → Shared → Prop} (ho : s.heap.get? l = some o) (hc : o.cls = .type "tuple") (h : Q true s) : wpAny M A (Builtin.Tuple.tupleIsExact (.ref l)) Q E s := by
  refine wpAny_bind (m := typeOf (.ref l)) ?_
  refine wpAny_typeOf_ref ho ?_
  refine wpAny_pure ?_
  rw [hc]
  exact h
theorem it_false {M : Model} {A : Around} {E : Value → Shared → Prop} {s : Shared} {α : Type} {c : Bool} {a b : Sem α} {Q : α → Shared → Prop} (hc : c = false) (h : wpAny M A b Q E s) : wpAny M A (if c = true then a else b) Q E s := by subst hc; exact h
theorem it_true {M : Model} {A : Around} {E : Value → Shared → Prop} {s : Shared} {α : Type} {c : Bool} {a b : Sem α} {Q : α → Shared → Prop} (hc : c = true) (h : wpAny M A a Q E s) : wpAny M A (if c = true then a else b) Q E s := by subst hc; exact h
theorem tuple_mul1 (l : Addr) (items : Array Value) (n : Nat) (dd : Option Addr) (sl : Array (Option Value)) (u : Tok) :
    Meets (Builtin.«tuple.__mul__» { pos := [Value.ref l, Value.int 1 u] }) fun _ R s => s.heap.get? l = some ⟨.type "tuple", dd, .seq items n, sl⟩ ∧ R (.ok (.ret (.ref l))) s := by
  refine Meets.of_wp fun prog w A R s h => ?_
  obtain ⟨ho, hR⟩ := h
  delta Builtin.«tuple.__mul__»
  refine wpAny_bind (m := asIndex (Value.int 1 u)) (wp_asIndex ?_)
  refine it_false ?c2 ?g2
  case c2 => rfl
  refine wpAny_bind (wp_items ho ?_)
  refine it_true ?c3 ?g3
  case c3 => simp
  refine wpAny_bind (wp_exact ho rfl ?_)
  refine it_true ?c4 ?g4
  case c4 => rfl
  refine wpAny_bind (wpAny_rule ?_)
  exact wpAny_pure ⟨_, rfl, hR⟩
theorem tuple_mul0 (l : Addr) (items : Array Value) (n : Nat) (dd : Option Addr) (sl : Array (Option Value)) (u : Tok) (hi : items.isEmpty = false) :
    Meets (Builtin.«tuple.__mul__» { pos := [Value.ref l, Value.int 0 u] }) fun _ R s => s.heap.get? l = some ⟨.type "tuple", dd, .seq items n, sl⟩ ∧ R (.ok (.ret (.ref s.heap.objs.size))) { s with heap := s.heap.push { cls := .type "tuple", data := .seq #[] } } := by
  refine Meets.of_wp fun prog w A R s h => ?_
  obtain ⟨ho, hR⟩ := h
  delta Builtin.«tuple.__mul__»
  refine wpAny_bind (m := asIndex (Value.int 0 u)) (wp_asIndex ?_)
  refine it_false ?c2 ?g2
  case c2 => rfl
  refine wpAny_bind (wp_items ho ?_)
  refine it_false ?c3 ?g3
  case c3 => rw [hi]; rfl
  refine it_true ?c4 ?g4
  case c4 => rfl
  refine wpAny_bind ?_
  refine wpAny_newObj_type ?_
  exact wpAny_pure ⟨_, rfl, hR⟩
/-- t * 0 and t * 1 -/
def rRep01 (K : PySem.W.Frag) : R2 := fun x y H Q => ∃ l k xs, x = .ref l ∧ y = .int k ∧ SqT K H l xs ∧ xs ≠ [] ∧ ((k = 1 ∧ Q (.ref l) H) ∨ (k = 0 ∧ ∀ p, H p = none → Q (.ref p) (upd H p (.tup []))))
theorem op_rep01 {X : Cx} : OpR X (binaryOp .Mult) (rRep01 X.K) := by
  intro pins s σ H x y v u Q I rx ry h
  obtain ⟨l, k, xs, rfl, rfl, hT, hne, q⟩ := h
  cases rx
  obtain ⟨t, rfl⟩ := ry
  obtain ⟨its, r, ⟨⟨cls, dd, data, sl⟩, ho, hc, n, hd⟩, hs⟩ := I.tuple hT
  simp only at hc hd
  subst hc
  subst hd
  have hi : its.toArray.isEmpty = false := by
    cases its with
    | nil => cases r; exact absurd rfl hne
    | cons a b => rfl
  have key : wpAny (model X.prog X.w) X.A (call (.builtin "tuple.__mul__") [.ref l, .int k t]) (EP X pins σ Q) X.xe s := by
    rcases q with ⟨rfl, q⟩ | ⟨rfl, q⟩
    · exact call_meets F.slot_tuple_mul ⟨_, ho, rfl⟩ F.entry_tuple_mul (F.args_tuple_mul_2 _ _) (tuple_mul1 l its.toArray n dd sl t) ⟨ho, .ref l, H, I, rfl, q⟩
    · refine call_meets F.slot_tuple_mul ⟨_, ho, rfl⟩ F.entry_tuple_mul (F.args_tuple_mul_2 _ _) (tuple_mul0 l its.toArray n dd sl t hi) ⟨ho, ?_⟩
      refine ⟨.ref s.heap.objs.size, upd H s.heap.objs.size (.tup []), I.laid (fun b ob q => Heap.get?_push_of_some _ q) (Nat.le_refl _) ⟨Nat.zero_le _, ?_⟩, rfl, q _ (I.hok.fresh (Nat.le_refl _))⟩
      exact ⟨[], .nil, IsTup.new s.heap #[]⟩
  exact wpAny_binaryOp_repeat_ref (by decide) ⟨_, ho, rfl⟩ (fun s' => typeIs_int s' k t) noFill_tuple_mul F.fills_int_mul F.slot_int_rmul repeat_tuple F.slot_int_index.lookup
    (call_meets F.slot_int_rmul (typeIs_int s k t) F.entry_int_rmul (F.args_int_rmul_2 _ _) (int_rmul_tuple k t l its.toArray n dd sl) ⟨ho, rfl, ⟨_, ho, rfl⟩, key⟩)

/-! ### dicts in repr -/
mutual
def D.pd : D → Bool
  | .non => true
  | .bl _ => true
  | .int _ => true
  | .str _ => true
  | .tup xs => D.pdAll xs
  | .dic kvs => D.pdKv kvs
  | _ => false
def D.pdAll : List D → Bool
  | [] => true
  | d :: ds => d.pd && D.pdAll ds
def D.pdKv : List (Key × D) → Bool
  | [] => true
  | (_, d) :: ds => d.pd && D.pdKv ds
end
section
variable {G : Ga} {B : List Addr} {H : Hp}
def RdB (G : Ga) (B : List Addr) (H : Hp) (s : Shared) (d : D) : Prop := ∀ (v : V) (u : Value), Dt G B H v d → RelV v u → ∃ as, Reads s.heap u d.py as ∧ sysModules ∉ as
theorem key_reads {h : Heap} {key : Key} {v : Value} (p : keyIs key v = true) : Reads h v (kPy key) [] := by
  cases key with
  | inl i =>
    have p1' : Value.isInt i v = true := p
    unfold Value.isInt at p1'
    split at p1'
    · rw [eq_of_beq p1']; exact .int _ _
    · cases p1'
  | inr x =>
    have p1' : Value.isStrOf x v = true := p
    unfold Value.isStrOf at p1'
    split at p1'
    · rw [eq_of_beq p1']; exact .str _ _
    · cases p1'
theorem dkv_reads {X : Cx} {s : Shared} : ∀ (ds : List (Key × D)) {kvs : List (Key × V)} {vs : List (Key × Value)} {es : List DictEntry},
    KV kvs vs → Pairs (mixKind X.prog X.w) es vs → Dkv G B H kvs ds → (∀ k d, (k, d) ∈ ds → RdB G B H s d) →
    ∃ bs, ReadsAll s.heap (es.map fun x => x.key) ((D.pyKv ds).map fun x => x.1) [] ∧ ReadsAll s.heap (es.map fun x => x.val) ((D.pyKv ds).map fun x => x.2) bs ∧ sysModules ∉ bs
  | [], kvs, vs, es, k, p, h, _ => by
    cases h
    cases k
    cases p
    exact ⟨[], by simpa only [D.pyKv] using .nil, by simpa only [D.pyKv] using .nil, by simp⟩
  | (key, d) :: ds, kvs, vs, es, k, p, h, ih => by
    cases h with
    | cons hd hs =>
      cases k with
      | cons k1 k2 =>
        cases p with
        | cons p1 p2 p3 =>
          obtain ⟨bs, r1, r2, r3⟩ := dkv_reads ds k2 p3 hs fun k d hm => ih k d (List.mem_cons_of_mem _ hm)
          obtain ⟨as, q1, q2⟩ := ih key d List.mem_cons_self _ _ hd k1.2
          refine ⟨as ++ bs, ?_, ?_, by simp [q2, r3]⟩
          · simp only [D.pyKv, List.map_cons]
            refine ReadsAll.cons (as := []) ?_ r1
            have e := k1.1
            simp only at e
            rw [← e] at p1
            exact key_reads p1
          · simp only [D.pyKv, List.map_cons]
            rw [p2]
            exact ReadsAll.cons q1 r2
theorem dts_reads {s : Shared} : ∀ (ds : List D) {vs : List V} {us : List Value}, Vals vs us → Dts G B H vs ds → (∀ d ∈ ds, RdB G B H s d) → ∃ bs, ReadsAll s.heap us (D.pyAll ds) bs ∧ sysModules ∉ bs
  | [], vs, us, r, h, _ => by
    cases h; cases r
    exact ⟨[], by simpa only [D.pyAll] using .nil, by simp⟩
  | d :: ds, vs, us, r, h, ih => by
    cases h with
    | cons hd hs =>
      cases r with
      | cons r1 r2 =>
        obtain ⟨bs, q1, q2⟩ := dts_reads ds r2 hs fun d hm => ih d (List.mem_cons_of_mem _ hm)
        obtain ⟨as, q3, q4⟩ := ih d List.mem_cons_self _ _ hd r1
        exact ⟨as ++ bs, by simpa only [D.pyAll] using .cons q3 q1, by simp [q2, q4]⟩
theorem pdAll_mem : ∀ {ds : List D} {d : D}, D.pdAll ds = true → d ∈ ds → d.pd = true
  | [], _, _, h => by cases h
  | e :: ds, d, h, hm => by
    simp only [D.pdAll, Bool.and_eq_true] at h
    rcases List.mem_cons.mp hm with rfl | hm
    · exact h.1
    · exact pdAll_mem h.2 hm
theorem pdKv_mem : ∀ {ds : List (Key × D)} {k : Key} {d : D}, D.pdKv ds = true → (k, d) ∈ ds → d.pd = true
  | [], _, _, _, h => by cases h
  | (k', e) :: ds, k, d, h, hm => by
    simp only [D.pdKv, Bool.and_eq_true] at h
    rcases List.mem_cons.mp hm with hm | hm
    · cases hm; exact h.1
    · exact pdKv_mem h.2 hm
theorem dt_reads {X : Cx} {pins : List (Addr × Obj)} {σ : L2.St} {s : Shared} (I : L2.Inv X pins σ H s) (hK : X.K = G.K) : ∀ (n : Nat) (d : D), sizeOf d ≤ n → d.pd = true → RdB G B H s d := by
  intro n
  induction n with
  | zero => intro d hz; cases d <;> simp at hz
  | succ n ih =>
    intro d hz hp v u h r
    cases h with
    | non => cases r; exact ⟨[], by simpa only [D.py] using .none, by simp⟩
    | bl b => cases r; exact ⟨[], by simpa only [D.py] using .bool b, by simp⟩
    | int i => obtain ⟨t, rfl⟩ := r; exact ⟨[], by simpa only [D.py] using .int i t, by simp⟩
    | str x => obtain ⟨t, rfl⟩ := r; exact ⟨[], by simpa only [D.py] using .str x t, by simp⟩
    | tup h1 h2 =>
      rename_i ds
      cases r
      have hT := h1.sq
      rw [← hK] at hT
      obtain ⟨its, rr, ⟨o, ho, hc, m, hd⟩, _⟩ := I.tuple hT
      simp only [D.pd] at hp
      simp only [D.tup.sizeOf_spec] at hz
      obtain ⟨bs, q1, q2⟩ := dts_reads ds rr h2 fun d hm => ih d (by have := List.sizeOf_lt_of_mem hm; omega) (pdAll_mem hp hm)
      exact ⟨bs, by simpa only [D.py] using .tuple ho hc hd q1, q2⟩
    | dic h1 n1 h2 =>
      rename_i a kvs ds
      cases r
      obtain ⟨_, hs, vs, k1, o, es, ep, ho, hx, hd, _, hP, _⟩ := dk_of I.hok h1
      simp only [D.pd] at hp
      simp only [D.dic.sizeOf_spec] at hz
      obtain ⟨bs, q1, q2, q3⟩ := dkv_reads (X := X) ds k1 hP h2 fun k d hm => ih d (by have := List.sizeOf_lt_of_mem hm; simp at this; omega) (pdKv_mem hp hm)
      refine ⟨_, by simpa only [D.py] using .dict ho hx.1 hd q1 q2, ?_⟩
      have : a ≠ sysModules := fun e => by rw [e] at hs; simp at hs
      simp [q3, Ne.symm this]
    | lst => simp [D.pd] at hp
    | obj => simp [D.pd] at hp
    | ty => simp [D.pd] at hp
    | cls => simp [D.pd] at hp
    | bag => simp [D.pd] at hp

/-- repr of a datum with dicts and no lists -/
def rReprB (K : PySem.W.Frag) : List V → Hp → VK → Prop := fun xs H Q => ∃ (b : Option Addr) (B : List Addr) (x : V) (d : D), xs = [x] ∧ Dt ⟨K, b⟩ B H x d ∧ d.pd = true ∧ d.py.showable = true ∧ d.py.depth ≤ 60 ∧ d.py.shown.length ≤ sizeLine ∧ Q (.str d.py.shown) H
theorem call_reprB {X : Cx} {K : PySem.W.Frag} {k : Nat} (hK : X.K = K) (hg : X.A.guards = some []) (hr : Room k X.A) : CallR X (.builtin "repr") (rReprB K) := by
  intro pins s σ H xs us Q I r h
  obtain ⟨b, B, x, d, rfl, hd, hp, hs, hdep, hz, q⟩ := h
  obtain ⟨u, rfl, ru⟩ := Vals.one r
  obtain ⟨as, hr', hn⟩ := dt_reads (G := ⟨K, b⟩) I hK _ d (Nat.le_refl _) hp x u hd ru
  have hu : X.A.units + (d.py.depth + 1) < cLine := by have := hr.units; omega
  have fin : ∀ t tk, EP X pins σ Q (.str d.py.shown t) { s with toks := tk } := fun t tk => ⟨.str _, H, I.tok _, ⟨_, rfl⟩, q⟩
  cases hd with
  | non => cases ru; exact PySem.P.repr_of_none (by simpa [D.py, PyData.shown] using fin _ _)
  | bl b => cases ru; exact PySem.P.repr_of_bool (by simpa [D.py, PyData.shown] using fin _ _)
  | int i => obtain ⟨t, rfl⟩ := ru; exact PySem.P.repr_of_int (by simpa [D.py, PyData.showable] using hs) (by simpa [D.py, PyData.shown] using fin _ _)
  | str z => obtain ⟨t, rfl⟩ := ru; exact PySem.P.repr_of_str (by simpa [D.py, PyData.shown] using fin _ _) (by simpa [D.py, PyData.shown] using hz)
  | tup h1 h2 =>
    cases ru
    refine repr_of_reads' hr' hs (fun _ => hn) hg hu (fun _ _ e => e) (fun h' t tk hk => ?_) hz
    exact ⟨.str _, H, I.kept hk, ⟨_, rfl⟩, q⟩
  | dic h1 n1 h2 =>
    cases ru
    refine repr_of_reads' hr' hs (fun _ => hn) hg hu (fun _ _ e => e) (fun h' t tk hk => ?_) hz
    exact ⟨.str _, H, I.kept hk, ⟨_, rfl⟩, q⟩
  | lst => simp [D.pd] at hp
  | obj => simp [D.pd] at hp
  | ty => simp [D.pd] at hp
  | cls => simp [D.pd] at hp
  | bag => simp [D.pd] at hp
def rRepr2 (K : PySem.W.Frag) : List V → Hp → VK → Prop := fun xs H Q => rRepr K xs H Q ∨ rReprB K xs H Q
theorem reprK2 {X : Cx} {K : PySem.W.Frag} {k : Nat} (hK : X.K = K) (hg : X.A.guards = some []) (hr : Room k X.A) : CallR X (.builtin "repr") (rRepr2 K) := by
  intro pins s σ H xs us Q I r h
  rcases h with h | h
  · rw [← hK] at h; exact call_repr hg hr pins s σ H xs us Q I r h
  · exact call_reprB hK hg hr pins s σ H xs us Q I r h
def reprG (ds : List D) (Q : D → Prop) : Prop := match ds with
  | [d] => ((d.pl || d.pd) = true ∧ d.py.showable = true ∧ d.py.depth ≤ 60 ∧ d.py.shown.length ≤ sizeLine) ∧ Q (.str d.py.shown)
  | _ => False
theorem calld_repr2 : CallD G (rRepr2 G.K) reprG := by
  intro B H x dx ok hx Qd Q hQ hm
  unfold reprG at hm
  split at hm
  · obtain ⟨v, rfl, hv⟩ := hx.one
    obtain ⟨⟨h1, h2, h3, h4⟩, q⟩ := hm
    rcases Bool.or_eq_true_iff.mp h1 with h1 | h1
    · exact .inl ⟨v, _, rfl, hv.dp h1, h2, h3, h4, hQ _ _ H q (Bx.refl _ _) (.str _)⟩
    · exact .inr ⟨G.b, B, v, _, rfl, hv, h1, h2, h3, h4, hQ _ _ H q (Bx.refl _ _) (.str _)⟩
  · exact hm.elim
/-! ### {} and {k: v} -/
theorem evd_dnew : EvD G tDNewK (mC (.dic [])) := fun B H σ ρ hS Qd Q hQ hm p hp => hQ _ _ _ hm (Bx.new hp) (hS.ok.new hp) (.dic upd_same (hS.ok.fresh hp) .nil)
def keyD : D → Option Key
  | .int i => some (.inl i)
  | .str x => some (.inr x)
  | _ => none
def kvsOf : List (D × D) → Option (List (Key × D))
  | [] => some []
  | (k, v) :: r => match keyD k, kvsOf r with
    | some a, some b => some ((a, v) :: b)
    | _, _ => none
def putD (kvs : List (Key × D)) (k : Key) (v : D) : List (Key × D) :=
  if (kvs.any fun kv => decide (kv.1 = k)) = true then kvs.map fun kv => if kv.1 = k then (kv.1, v) else kv else kvs ++ [(k, v)]
def mergeD (kvs more : List (Key × D)) : List (Key × D) := more.foldl (fun acc kv => putD acc kv.1 kv.2) kvs
theorem dkv_any {B H} (k : Key) : ∀ {a : List (Key × V)} {b : List (Key × D)}, Dkv G B H a b → (a.any fun kv => decide (kv.1 = k)) = (b.any fun kv => decide (kv.1 = k))
  | [], _, h => by cases h; rfl
  | _ :: _, [], h => by cases h
  | (x, v) :: a, (y, d) :: b, h => by
    cases h with
    | cons h1 h2 => rw [List.any_cons, List.any_cons, dkv_any k h2]
theorem dkv_snoc {B H} {k : Key} {v : V} {d : D} (hd : Dt G B H v d) : ∀ {a : List (Key × V)} {b : List (Key × D)}, Dkv G B H a b → Dkv G B H (a ++ [(k, v)]) (b ++ [(k, d)])
  | [], _, h => by cases h; exact .cons hd .nil
  | _ :: _, [], h => by cases h
  | (x, v') :: a, (y, d') :: b, h => by
    cases h with
    | cons h1 h2 => exact .cons h1 (dkv_snoc hd h2)
theorem dkv_sub {B H} {k : Key} {v : V} {d : D} (hd : Dt G B H v d) : ∀ {a : List (Key × V)} {b : List (Key × D)}, Dkv G B H a b → Dkv G B H (a.map fun kv => if kv.1 = k then (kv.1, v) else kv) (b.map fun kv => if kv.1 = k then (kv.1, d) else kv)
  | [], _, h => by cases h; exact .nil
  | _ :: _, [], h => by cases h
  | (x, v') :: a, (y, d') :: b, h => by
    cases h with
    | cons h1 h2 =>
      simp only [List.map_cons]
      split
      · exact .cons hd (dkv_sub hd h2)
      · exact .cons h1 (dkv_sub hd h2)
theorem dkv_put {B H} {k : Key} {v : V} {d : D} (hd : Dt G B H v d) {a : List (Key × V)} {b : List (Key × D)} (h : Dkv G B H a b) : Dkv G B H (putK a k v) (putD b k d) := by
  unfold putK putD
  rw [dkv_any k h]
  split
  · exact dkv_sub hd h
  · exact dkv_snoc hd h
theorem dkv_merge {B H} : ∀ {c : List (Key × V)} {d : List (Key × D)} {a : List (Key × V)} {b : List (Key × D)}, Dkv G B H a b → Dkv G B H c d → Dkv G B H (mergeK a c) (mergeD b d)
  | [], _, _, _, h, k => by cases k; exact h
  | _ :: _, [], _, _, _, k => by cases k
  | (x, v) :: c, (y, d) :: e, a, b, h, k => by
    cases k with
    | cons k1 k2 =>
      show Dkv G B H (mergeK (putK a x v) c) (mergeD (putD b x d) e)
      exact dkv_merge (dkv_put k1 h) k2
def mPairs : List (ME × ME) → Rho → (List (D × D) → Prop) → Prop
  | [], _, Q => Q []
  | (mk, mv) :: r, ρ, Q => mk ρ fun k => mv ρ fun v => mPairs r ρ fun ps => Q ((k, v) :: ps)
def someL (o : Option (List (Key × D))) (Q : List (Key × D) → Prop) : Prop := match o with
  | some d => Q d
  | none => False
def mDisp (ms : List (ME × ME)) : ME := fun ρ Q => mPairs ms ρ fun ps => ps.length ≤ 15 ∧ someL (kvsOf ps) fun kvs => Q (.dic (mergeD [] kvs))
def EvP (G : Ga) (trs : List (TE × TE)) (ms : List (ME × ME)) : Prop := ∀ (B : List Addr) (H : Hp) (σ : L2.St) (ρ : Rho), Sta G B H σ ρ → ∀ (Qd : List (D × D) → Prop) (Q : List (V × V) → Hp → Prop),
  (∀ ds vs H2, Qd ds → Bx G.c H H2 → Ok G B H2 → Dts G B H2 (vs.map Prod.fst) (ds.map Prod.fst) → Dts G B H2 (vs.map Prod.snd) (ds.map Prod.snd) → Q vs H2) → mPairs ms ρ Qd → tPairs trs σ H Q
theorem evp_nil : EvP G [] [] := fun B H σ ρ hS Qd Q hQ hm => hQ [] [] H hm (Bx.refl _ _) hS.ok .nil .nil
theorem evp_cons {tk tv : TE} {mk mv : ME} {trs ms} (hk : EvD G tk mk) (hv : EvD G tv mv) (hr : EvP G trs ms) : EvP G ((tk, tv) :: trs) ((mk, mv) :: ms) := by
  intro B H σ ρ hS Qd Q hQ hm
  refine hk B H σ ρ hS (fun k => mv ρ fun v => mPairs ms ρ fun ps => Qd ((k, v) :: ps)) _ (fun k vk H1 q b1 ok1 h1 => ?_) hm
  refine hv B H1 σ ρ (hS.bx b1 ok1) (fun v => mPairs ms ρ fun ps => Qd ((k, v) :: ps)) _ (fun v vv H2 q b2 ok2 h2 => ?_) q
  refine hr B H2 σ ρ ((hS.bx b1 ok1).bx b2 ok2) (fun ps => Qd ((k, v) :: ps)) _ (fun ps vs H3 q b3 ok3 h3 h4 => ?_) q
  exact hQ _ ((vk, vv) :: vs) H3 q ((b1.trans b2).trans b3) ok3 (.cons ((h1.bx (b2.sub ok1.sub)).bx (b3.sub ok2.sub)) h3) (.cons (h2.bx (b3.sub ok2.sub)) h4)
theorem kvs_inv {B H} : ∀ {ps : List (D × D)} {vs : List (V × V)} {kvs : List (Key × D)}, kvsOf ps = some kvs → Dts G B H (vs.map Prod.fst) (ps.map Prod.fst) → Dts G B H (vs.map Prod.snd) (ps.map Prod.snd) →
    ∃ kv : List (Key × V), vs = kv.map (fun x => (kV x.1, x.2)) ∧ Dkv G B H kv kvs
  | [], vs, kvs, e, h1, h2 => by
    cases vs with
    | nil => cases e; exact ⟨[], rfl, .nil⟩
    | cons => cases h1
  | (k, v) :: ps, vs, kvs, e, h1, h2 => by
    cases vs with
    | nil => cases h1
    | cons x vs =>
      cases h1 with
      | cons a1 a2 =>
        cases h2 with
        | cons c1 c2 =>
          simp only [kvsOf] at e
          split at e
          · rename_i a b ea eb
            cases e
            obtain ⟨kv, e1, e2⟩ := kvs_inv eb a2 c2
            obtain ⟨xk, xv⟩ := x
            have : xk = kV a := by
              cases a1 <;> simp only [keyD] at ea <;> first
                | cases ea; rfl
                | cases ea
            refine ⟨(a, xv) :: kv, by rw [List.map_cons, e1, this], .cons c1 e2⟩
          · cases e
theorem evd_disp {trs ms} (h : EvP G trs ms) : EvD G (tDisp trs) (mDisp ms) := by
  intro B H σ ρ hS Qd Q hQ hm p hp
  have hpB : p ∉ B := hS.ok.fresh hp
  have hpc : p ∉ G.c := fun z => hpB (hS.ok.sub p z)
  refine h (p :: B) (upd H p (.dK [])) σ ρ (hS.more hp) _ _ (fun ps vs H2 q b ok h1 h2 => ?_) hm
  have e : H2 p = some (.dK []) := b p _ hpc upd_same
  refine ⟨e, ?_⟩
  obtain ⟨hl, q⟩ := q
  unfold someL at q
  split at q
  · rename_i kvs ek
    obtain ⟨kv, e1, e2⟩ := kvs_inv ek h1 h2
    refine ⟨kv, e1, ?_, ?_⟩
    · have := h1.length
      rw [e1] at this
      simp at this
      omega
    · refine hQ _ _ _ q (fun a o n ha => ?_) ((ok.put (List.mem_cons_self) hpc).drop hpc) (.dic upd_same hpB ?_)
      · have : a ≠ p := ne_of_none ha hp
        rw [upd_ne this]
        exact b a o n (by rw [upd_ne this]; exact ha)
      · have m := dkv_merge (G := G) (B := p :: B) (H := H2) .nil e2
        refine m.to fun a o n ha => ?_
        have : a ≠ p := fun z => n (z ▸ List.mem_cons_self)
        exact ⟨fun z => n (List.mem_cons_of_mem _ z), by rw [upd_ne this]; exact ha⟩
  · exact q.elim
/-! ### t * k, i ** j, upper -/
def mulG (x y : D) (Q : D → Prop) : Prop := match x, y with
  | .tup xs, .int n => (xs ≠ [] ∧ 0 ≤ n ∧ n ≤ 1000 ∧ xs.length ≤ 1000) ∧ Q (.tup (List.replicate n.toNat xs).flatten)
  | x, y => mulF x y Q
def rMulG (K : PySem.W.Frag) (r : R2) : R2 := fun x y H Q => r x y H Q ∨ (rRep01 K x y H Q ∨ rRepT K x y H Q)
theorem opd_mulG {r : R2} (h : OpD G r mulF) : OpD G (rMulG G.K r) mulG := by
  intro B H x y dx dy ok hx hy Qd Q hQ hm
  unfold mulG at hm
  split at hm
  · rename_i xs n
    obtain ⟨⟨hne, h0, h1, hl⟩, q⟩ := hm
    cases hx with
    | tup t1 t2 =>
      cases hy
      have hne' : ∀ {vs : List V}, Dts G B H vs xs → vs ≠ [] := fun h e => hne (h.nil_iff.mp e)
      right
      have c : n = 0 ∨ n = 1 ∨ 2 ≤ n := by omega
      rcases c with rfl | rfl | c
      · exact .inl ⟨_, _, _, rfl, rfl, t1.sq, hne' t2, .inr ⟨rfl, fun p hp => hQ _ _ _ q (Bx.new hp) (dt_newT ok hp .nil)⟩⟩
      · refine .inl ⟨_, _, _, rfl, rfl, t1.sq, hne' t2, .inl ⟨rfl, hQ _ _ H q (Bx.refl _ _) ?_⟩⟩
        have : (List.replicate (1 : Int).toNat xs).flatten = xs := by simp
        rw [this]
        exact .tup t1 t2
      · exact .inr ⟨_, _, _, rfl, rfl, t1.sq, hne' t2, c, h1, by rw [t2.length]; exact hl, fun p hp => hQ _ _ _ q (Bx.new hp) (dt_newT ok hp (t2.rep _))⟩
  · exact .inl (h B H x y dx dy ok hx hy Qd Q hQ hm)
def powF (x y : D) (Q : D → Prop) : Prop := match x, y with
  | .int i, .int j => (0 ≤ j ∧ j ≤ 1000000 ∧ i.natAbs < 2 ^ 64) ∧ Q (.int (i ^ j.toNat))
  | _, _ => False
theorem opd_pow : OpD G (rI CPow fun i j => .int (i ^ j.toNat)) powF := opd_i fun dx dy Qd h => by
  cases dx <;> cases dy <;> first
    | exact ⟨_, _, _, rfl, rfl, h.1, fun _ _ => .int _, h.2⟩
    | exact (show False from h).elim
def rUp : V → List V → Hp → VK → Prop := fun x xs H Q => ∃ a, x = .str a ∧ xs = [] ∧ a.length ≤ 5592405 ∧ Q (.str (Txt.upper a)) H
def upF (x : D) (Q : D → Prop) : Prop := match x with
  | .str a => a.length ≤ 5592405 ∧ Q (.str (Txt.upper a))
  | _ => False
theorem und_up : UnD G (fun x H Q => rUp x [] H Q) upF := by
  intro B H x dx ok hx Qd Q hQ hm
  cases hx with
  | str a => exact ⟨a, rfl, rfl, hm.1, hQ _ _ H hm.2 (Bx.refl _ _) (.str _)⟩
  | _ => exact (show False from hm).elim
theorem mulGK {X : Cx} {K : PySem.W.Frag} (h : X.K = K) : OpR X (binaryOp .Mult) (rMulG K rMulU) := by subst h; exact op_mulU.or (op_rep01.or op_repT)
theorem opd_mulG' : OpD G (rMulG G.K rMulU) mulG := opd_mulG opd_mul
theorem pe_upK {X : Cx} {o : Expr} {to : TE} {apos pos : Pos} (ho : PE X o to) (h1 : attributeBase o (Str.ofString "upper") X.env (eval o X.env) = eval o X.env := by rfl) (h2 : (apos.endLine == pos.line) = true := by rfl) :
    PE X (.Call (.Attribute o (Str.ofString "upper") apos) [] [] pos) (tM0 rUp to) := pe_upper ho h1 h2
/-! ### xs == [] -/
def eqG (x y : D) (Q : D → Prop) : Prop := match x, y with
  | .lst xs, .lst [] => Q (.bl xs.isEmpty)
  | x, y => eqF x y Q
def rEqNil : R2 := fun x y H Q => ∃ a b vs, x = .ref a ∧ y = .ref b ∧ H a = some (.lst vs) ∧ H b = some (.lst []) ∧ vs ≠ [] ∧ Q (.bl false) H
def rEqG2 (K : PySem.W.Frag) : R2 := fun x y H Q => rEqU K x y H Q ∨ rEqNil x y H Q
theorem plain_list {h : Heap} {a : Addr} {xs : Array Value} (p : PlainL h a xs) : h.IsList a xs := by
  obtain ⟨o, n, e, c, d, q⟩ := p
  exact ⟨o, e, c, n, q⟩
theorem op_eqNil {X : Cx} (hu : X.A.units + 64 < cLine) : OpR X (compareOp .Eq) rEqNil := by
  intro pins s σ H x y v u Q I rx ry h
  obtain ⟨a, b, vs, rfl, rfl, h1, h2, hne, q⟩ := h
  cases rx
  cases ry
  obtain ⟨its, r, p, _⟩ := I.list (.inl (.inl h1) : SqL X.K H a vs)
  obtain ⟨its2, r2, p2, _⟩ := I.list (.inl (.inl h2) : SqL X.K H b [])
  cases r2
  refine SeqAt.eq_list_lengthsAt (plain_list p) (plain_list p2) ?_ (by omega) ⟨.bl false, H, I, rfl, q⟩
  cases r with
  | nil => exact absurd rfl hne
  | cons _ _ => simp
theorem eqGK {X : Cx} {K : PySem.W.Frag} (h : X.K = K) (hu : X.A.units + 64 < cLine) : OpR X (compareOp .Eq) (rEqG2 K) := by subst h; exact (op_eq.or (op_eqD hu)).or (op_eqNil hu)
theorem opd_eqG : OpD G (rEqG2 G.K) eqG := by
  intro B H x y dx dy ok hx hy Qd Q hQ hm
  unfold eqG at hm
  split at hm
  · rename_i xs
    cases hx with
    | lst h1 n1 s1 =>
      cases hy with
      | lst h2 n2 s2 =>
        cases s2
        cases xs with
        | nil =>
          cases s1
          exact .inl (.inr ⟨_, _, .lst (.inl (.inl h1)) .nil, .lst (.inl (.inl h2)) .nil, by decide, by decide, hQ _ _ H hm (Bx.refl _ _) (.bl _)⟩)
        | cons d ds => exact .inr ⟨_, _, _, rfl, rfl, h1, h2, by cases s1; simp, hQ _ _ H hm (Bx.refl _ _) (.bl _)⟩
  · exact .inl (opd_eq B H x y dx dy ok hx hy Qd Q hQ hm)
end
end Dz

namespace K11
open PySem PySem.Spec PyProof.Rows L2 Dz
def topS (i : Nat) : Stmt := PySem.Challenge.pw_vouchchains_k11_kinds_known.main.body.getD i (.Pass ⟨0, 0, 0, 0⟩)
abbrev s_is_integer : Stmt := topS 5
abbrev N_is_integer : List Str := ["thing"]
theorem sc_is_integer : FnScope N_is_integer ["thing"] (defScope s_is_integer) := ⟨rfl, rfl, rfl, by decide +kernel, rfl, by decide +kernel, by decide +kernel⟩

abbrev s_is_word : Stmt := topS 6
abbrev N_is_word : List Str := ["thing", "letter"]
theorem sc_is_word : FnScope N_is_word ["thing"] (defScope s_is_word) := ⟨rfl, rfl, rfl, by decide +kernel, rfl, by decide +kernel, by decide +kernel⟩

abbrev s__law_bag : Stmt := topS 13
abbrev N__law_bag : List Str := ["_law_script", "_law_cell"]
theorem sc__law_bag : FnScope N__law_bag ["_law_script"] (defScope s__law_bag) := ⟨rfl, rfl, rfl, by decide +kernel, rfl, by decide +kernel, by decide +kernel⟩

abbrev s__law_take : Stmt := topS 14
abbrev N__law_take : List Str := ["_law_bag_here", "_law_many", "_law_cell", "_law_more", "_law_drawn", "_law_begin", "_law_second"]
theorem sc__law_take : FnScope N__law_take ["_law_bag_here", "_law_many"] (defScope s__law_take) := ⟨rfl, rfl, rfl, by decide +kernel, rfl, by decide +kernel, by decide +kernel⟩

abbrev s__law_within : Stmt := topS 15
abbrev N__law_within : List Str := ["_law_thing_here", "_law_low", "_law_high"]
theorem sc__law_within : FnScope N__law_within ["_law_thing_here", "_law_low", "_law_high"] (defScope s__law_within) := ⟨rfl, rfl, rfl, by decide +kernel, rfl, by decide +kernel, by decide +kernel⟩

abbrev s__law_is_word : Stmt := topS 16
abbrev N__law_is_word : List Str := ["_law_thing_here", "_law_sign"]
theorem sc__law_is_word : FnScope N__law_is_word ["_law_thing_here"] (defScope s__law_is_word) := ⟨rfl, rfl, rfl, by decide +kernel, rfl, by decide +kernel, by decide +kernel⟩

abbrev s__law_is_couple : Stmt := topS 18
abbrev N__law_is_couple : List Str := ["_law_thing_here"]
theorem sc__law_is_couple : FnScope N__law_is_couple ["_law_thing_here"] (defScope s__law_is_couple) := ⟨rfl, rfl, rfl, by decide +kernel, rfl, by decide +kernel, by decide +kernel⟩

abbrev s_is_name : Stmt := topS 7
abbrev N_is_name : List Str := ["thing", "label"]
theorem sc_is_name : FnScope N_is_name ["thing"] (defScope s_is_name) := ⟨rfl, rfl, rfl, by decide +kernel, rfl, by decide +kernel, by decide +kernel⟩

abbrev s_is_day : Stmt := topS 9
abbrev N_is_day : List Str := ["thing"]
theorem sc_is_day : FnScope N_is_day ["thing"] (defScope s_is_day) := ⟨rfl, rfl, rfl, by decide +kernel, rfl, by decide +kernel, by decide +kernel⟩

abbrev s_is_count : Stmt := topS 10
abbrev N_is_count : List Str := ["thing"]
theorem sc_is_count : FnScope N_is_count ["thing"] (defScope s_is_count) := ⟨rfl, rfl, rfl, by decide +kernel, rfl, by decide +kernel, by decide +kernel⟩

abbrev s_is_pair : Stmt := topS 11
abbrev N_is_pair : List Str := ["thing"]
theorem sc_is_pair : FnScope N_is_pair ["thing"] (defScope s_is_pair) := ⟨rfl, rfl, rfl, by decide +kernel, rfl, by decide +kernel, by decide +kernel⟩

abbrev s__law_is_name : Stmt := topS 17
abbrev N__law_is_name : List Str := ["_law_thing_here", "_law_part"]
theorem sc__law_is_name : FnScope N__law_is_name ["_law_thing_here"] (defScope s__law_is_name) := ⟨rfl, rfl, rfl, by decide +kernel, rfl, by decide +kernel, by decide +kernel⟩

abbrev s__law_number : Stmt := topS 19
abbrev N__law_number : List Str := ["_law_bag_here", "_law_some"]
theorem sc__law_number : FnScope N__law_number ["_law_bag_here"] (defScope s__law_number) := ⟨rfl, rfl, rfl, by decide +kernel, rfl, by decide +kernel, by decide +kernel⟩

abbrev s__law_text : Stmt := topS 20
abbrev N__law_text : List Str := ["_law_bag_here", "_law_letters", "_law_others", "_law_many", "_law_text_here", "_law_k", "_law_spot"]
theorem sc__law_text : FnScope N__law_text ["_law_bag_here"] (defScope s__law_text) := ⟨rfl, rfl, rfl, by decide +kernel, rfl, by decide +kernel, by decide +kernel⟩

abbrev s__law_odd : Stmt := topS 22
abbrev N__law_odd : List Str := ["_law_bag_here", "_law_odd_here"]
theorem sc__law_odd : FnScope N__law_odd ["_law_bag_here"] (defScope s__law_odd) := ⟨rfl, rfl, rfl, by decide +kernel, rfl, by decide +kernel, by decide +kernel⟩

abbrev s_is_holder : Stmt := topS 8
abbrev N_is_holder : List Str := ["thing"]
theorem sc_is_holder : FnScope N_is_holder ["thing"] (defScope s_is_holder) := ⟨rfl, rfl, rfl, by decide +kernel, rfl, by decide +kernel, by decide +kernel⟩

abbrev s__law_any_name : Stmt := topS 21
abbrev N__law_any_name : List Str := ["_law_bag_here", "_law_many", "_law_way", "_law_k"]
theorem sc__law_any_name : FnScope N__law_any_name ["_law_bag_here"] (defScope s__law_any_name) := ⟨rfl, rfl, rfl, by decide +kernel, rfl, by decide +kernel, by decide +kernel⟩

abbrev s__law_bent : Stmt := topS 23
abbrev N__law_bent : List Str := ["_law_bag_here", "_law_thing_here", "_law_spot", "_law_way"]
theorem sc__law_bent : FnScope N__law_bent ["_law_bag_here", "_law_thing_here"] (defScope s__law_bent) := ⟨rfl, rfl, rfl, by decide +kernel, rfl, by decide +kernel, by decide +kernel⟩

abbrev s__law_due : Stmt := topS 25
abbrev N__law_due : List Str := ["_law_thing_here", "_law_holder", "_law_pair", "_law_found"]
theorem sc__law_due : FnScope N__law_due ["_law_thing_here"] (defScope s__law_due) := ⟨rfl, rfl, rfl, by decide +kernel, rfl, by decide +kernel, by decide +kernel⟩

abbrev s__law_thing : Stmt := topS 24
abbrev N__law_thing : List Str := ["_law_bag_here", "_law_way", "_law_thing_here"]
theorem sc__law_thing : FnScope N__law_thing ["_law_bag_here"] (defScope s__law_thing) := ⟨rfl, rfl, rfl, by decide +kernel, rfl, by decide +kernel, by decide +kernel⟩

abbrev s__law_asked : Stmt := topS 26
abbrev N__law_asked : List Str := ["_law_thing_here", "_law_found"]
theorem sc__law_asked : FnScope N__law_asked ["_law_thing_here"] (defScope s__law_asked) := ⟨rfl, rfl, rfl, by decide +kernel, rfl, by decide +kernel, by decide +kernel⟩

abbrev s_law : Stmt := topS 27
abbrev N_law : List Str := ["_law_script", "_law_bag_here", "_law_k", "_law_thing_here", "_law_shown", "_law_due_here", "_law_again"]
theorem sc_law : FnScope N_law ["_law_script"] (defScope s_law) := ⟨rfl, rfl, rfl, by decide +kernel, rfl, by decide +kernel, by decide +kernel⟩

def m_is_integer : List D → MD := runM 1 (sRet (mAndV (mCall isiF (mCons (mVar 0) (mCons (mC (.ty "int")) mNil))) (mNotV (mCall isiF (mCons (mVar 0) (mCons (mC (.ty "bool")) mNil))))))

def m_is_word : List D → MD := runM 2 (sSeq (sIf (mOr (mNot (mTru (mCall isiF (mCons (mVar 0) (mCons (mC (.ty "str")) mNil))))) (mNot (mTest (mChain leF leF (mC (.int 1)) (mCall lenF (mCons (mVar 0) mNil)) (mC (.int 8)))))) (sRet (mC (.bl false))) sNext)
    (sRet (mCall allF (mCons (mLc (miStr (mVar 0)) (gvName 1) mYes (mBin inCF (mVar 1) (mC (.str (Str.ofString "abcdefghijklmnopqrstuvwxyz")))) [1]) mNil))))

abbrev m__law_take : List D → MD := takeM

def m__law_within : List D → MD := runM 3 (sRet (mAndV (mCall isiF (mCons (mVar 0) (mCons (mC (.ty "int")) mNil))) (mAndV (mNotV (mCall isiF (mCons (mVar 0) (mCons (mC (.ty "bool")) mNil)))) (mChain leF leF (mVar 1) (mVar 0) (mVar 2)))))

def m__law_is_word : List D → MD := runM 2 (sSeq (sIf (mOr (mNot (mTru (mCall isiF (mCons (mVar 0) (mCons (mC (.ty "str")) mNil))))) (mOr (mTest (mBin ltF (mCall lenF (mCons (mVar 0) mNil)) (mC (.int 1)))) (mTest (mBin gtF (mCall lenF (mCons (mVar 0) mNil)) (mC (.int 8)))))) (sRet (mC (.bl false))) sNext)
    (sRet (mBin eqG (mLc (miStr (mVar 0)) (gvName 1) (mTest (mBin niCF (mVar 1) (mC (.str (Str.ofString "abcdefghijklmnopqrstuvwxyz"))))) (mVar 1) [1]) (mLst mNil))))

def m__law_is_couple : List D → MD := runM 1 (sRet (mAndV (mCall isiF (mCons (mVar 0) (mCons (mC (.ty "tuple")) mNil))) (mBin eqG (mCall lenF (mCons (mVar 0) mNil)) (mC (.int 2)))))

def m_is_name : List D → MD := runM 2 (sRet (mAndV (mCall isiF (mCons (mVar 0) (mCons (mC (.ty "tuple")) mNil))) (mCall allF (mCons (mLc (miTup (mVar 0)) (gvName 1) mYes (mFn 1 m_is_word [] (mCons (mVar 1) mNil)) [1]) mNil))))

def m_is_day : List D → MD := runM 1 (sRet (mAndV (mFn 1 m_is_integer [] (mCons (mVar 0) mNil)) (mChain leF leF (mC (.int 0)) (mVar 0) (mC (.int 1000000000)))))

def m_is_count : List D → MD := runM 1 (sRet (mOrV (mBin isF (mVar 0) (mC .non)) (mAndV (mFn 1 m_is_integer [] (mCons (mVar 0) mNil)) (mChain leF leF (mC (.int 0)) (mVar 0) (mC (.int 8))))))

def m_is_pair : List D → MD := runM 1 (sRet (mAndV (mCall isiF (mCons (mVar 0) (mCons (mC (.ty "tuple")) mNil))) (mAndV (mBin eqG (mCall lenF (mCons (mVar 0) mNil)) (mC (.int 2))) (mAndV (mFn 1 m_is_word [] (mCons (mBin ixF (mVar 0) (mC (.int 0))) mNil)) (mFn 1 m_is_word [] (mCons (mBin ixF (mVar 0) (mC (.int 1))) mNil))))))

def m__law_is_name : List D → MD := runM 2 (sRet (mAndV (mCall isiF (mCons (mVar 0) (mCons (mC (.ty "tuple")) mNil))) (mBin eqG (mLc (miTup (mVar 0)) (gvName 1) (mNot (mTru (mFn 1 m__law_is_word [] (mCons (mVar 1) mNil)))) (mVar 1) [1]) (mLst mNil))))

def m__law_number : List D → MD := runM 2 (sSeq (sAsg (mLst (mCons (mC (.int 0)) (mCons (mC (.int 8)) (mCons (mBin powF (mC (.int 10)) (mC (.int 9))) (mCons (mFn 2 m__law_take [] (mCons (mVar 0) (mCons (mBin addF (mBin powF (mC (.int 10)) (mC (.int 9))) (mC (.int 1))) mNil))) (mCons (mFn 2 m__law_take [] (mCons (mVar 0) (mCons (mBin powF (mC (.int 10)) (mC (.int 30))) mNil))) (mCons (mBin subF (mC (.int 0)) (mFn 2 m__law_take [] (mCons (mVar 0) (mCons (mBin powF (mC (.int 10)) (mC (.int 30))) mNil)))) (mCons (mC (.int 40)) mNil)))))))) (gvName 1))
    (sRet (mBin subF (mBin addF (mBin ixF (mVar 1) (mFn 2 m__law_take [] (mCons (mVar 0) (mCons (mC (.int 7)) mNil)))) (mFn 2 m__law_take [] (mCons (mVar 0) (mCons (mC (.int 3)) mNil)))) (mC (.int 1)))))

def m__law_text : List D → MD := runM 7 (sSeq (sAsg (mC (.str (Str.ofString "abcdefghijklmnopqrstuvwxyz"))) (gvName 1))
    (sSeq (sAsg (mBin addF (mC (.str (Str.ofString " \n!\"#$&'()*+,-./0123456789:;<=>?\x40[\\]^_`{|}~"))) (mM0 upF (mVar 1))) (gvName 2))
    (sSeq (sAsg (mBin ixF (mLst (mCons (mFn 2 m__law_take [] (mCons (mVar 0) (mCons (mC (.int 11)) mNil))) (mCons (mC (.int 8)) (mCons (mC (.int 9)) (mCons (mC (.int 1)) (mCons (mC (.int 3)) mNil)))))) (mFn 2 m__law_take [] (mCons (mVar 0) (mCons (mC (.int 5)) mNil)))) (gvName 3))
    (sSeq (sAsg (mM1 joinF (mC (.str (Str.ofString ""))) (mLc (miRng1 (mCons (mVar 3) mNil)) (gvName 5) mYes (mBin ixF (mVar 1) (mFn 2 m__law_take [] (mCons (mVar 0) (mCons (mC (.int 26)) mNil)))) [5])) (gvName 4))
    (sSeq (sIf (mOr (mTest (mBin eqG (mVar 4) (mC (.str (Str.ofString ""))))) (mTest (mBin gtF (mFn 2 m__law_take [] (mCons (mVar 0) (mCons (mC (.int 3)) mNil))) (mC (.int 0))))) (sRet (mVar 4)) sNext)
    (sSeq (sAsg (mFn 2 m__law_take [] (mCons (mVar 0) (mCons (mVar 3) mNil))) (gvName 6))
    (sRet (mBin addF (mBin addF (mSl slF (mVar 4) mNoPart (mPart (mVar 6))) (mBin ixF (mVar 2) (mFn 2 m__law_take [] (mCons (mVar 0) (mCons (mCall lenF (mCons (mVar 2) mNil)) mNil))))) (mSl slF (mVar 4) (mPart (mBin addF (mVar 6) (mC (.int 1)))) mNoPart)))))))))

def m__law_odd : List D → MD := runM 2 (sSeq (sAsg (mLst (mCons (mC .non) (mCons (mC (.bl true)) (mCons (mC (.bl false)) (mCons (mC (.str (Str.ofString ""))) (mCons (mC (.str (Str.ofString "a"))) (mCons (mC (.int 0)) (mCons (mC (.int 1)) (mCons (mLst mNil) (mCons (mTup mNil) (mCons (mC (.dic [])) (mCons (mDisp [((mC (.str (Str.ofString "a"))), (mC (.int 1)))]) (mCons (mLst (mCons (mLst mNil) mNil)) (mCons (mTup (mCons (mTup mNil) mNil)) (mCons (mTup (mCons (mTup (mCons (mC (.str (Str.ofString "a"))) mNil)) mNil)) (mCons (mTup (mCons (mC (.str (Str.ofString "a"))) (mCons (mC (.str (Str.ofString "b"))) mNil))) (mCons (mLst (mCons (mC (.str (Str.ofString "a"))) (mCons (mC (.str (Str.ofString "b"))) mNil))) mNil))))))))))))))))) (gvName 1))
    (sSeq (sAsg (mBin addF (mVar 1) (mLst (mCons (mTup (mCons (mTup (mCons (mC (.str (Str.ofString "a"))) mNil)) (mCons (mC (.str (Str.ofString "k"))) mNil))) (mCons (mLst (mCons (mTup (mCons (mC (.str (Str.ofString "a"))) mNil)) (mCons (mC (.str (Str.ofString "k"))) mNil))) (mCons (mTup (mCons (mC (.str (Str.ofString "a"))) (mCons (mC (.str (Str.ofString "k"))) (mCons (mC (.str (Str.ofString "k"))) mNil)))) (mCons (mTup (mCons (mTup (mCons (mC (.str (Str.ofString "a"))) mNil)) (mCons (mC (.str (Str.ofString "K"))) mNil))) (mCons (mTup (mCons (mBin mulG (mC (.str (Str.ofString "a"))) (mC (.int 4000))) mNil)) (mCons (mBin powF (mC (.int 10)) (mC (.int 39))) (mCons (mTup (mCons (mC (.int 1)) (mCons (mC (.int 2)) mNil))) mNil))))))))) (gvName 1))
    (sSeq (sAsg (mBin addF (mVar 1) (mLst (mCons (mBin mulG (mTup (mCons (mC (.str (Str.ofString "a"))) mNil)) (mC (.int 300))) (mCons (mBin addF (mBin mulG (mTup (mCons (mC (.str (Str.ofString "a"))) mNil)) (mC (.int 299))) (mTup (mCons (mC (.str (Str.ofString "A"))) mNil))) mNil)))) (gvName 1))
    (sRet (mBin ixF (mVar 1) (mFn 2 m__law_take [] (mCons (mVar 0) (mCons (mC (.int 25)) mNil))))))))

def m_is_holder : List D → MD := runM 1 (sRet (mAndV (mCall isiF (mCons (mVar 0) (mCons (mC (.ty "tuple")) mNil))) (mAndV (mBin eqG (mCall lenF (mCons (mVar 0) mNil)) (mC (.int 2))) (mAndV (mFn 1 m_is_name [] (mCons (mBin ixF (mVar 0) (mC (.int 0))) mNil)) (mFn 1 m_is_word [] (mCons (mBin ixF (mVar 0) (mC (.int 1))) mNil))))))

def m__law_any_name : List D → MD := runM 4 (sSeq (sAsg (mTup (mCons (mBin ixF (mLst (mCons (mFn 2 m__law_take [] (mCons (mVar 0) (mCons (mC (.int 4)) mNil))) (mCons (mFn 2 m__law_take [] (mCons (mVar 0) (mCons (mC (.int 10)) mNil))) mNil))) (mFn 2 m__law_take [] (mCons (mVar 0) (mCons (mC (.int 2)) mNil)))) (mCons (mFn 2 m__law_take [] (mCons (mVar 0) (mCons (mC (.int 2)) mNil))) mNil))) (gvTup 2 (gvCons (gvName 1) (gvCons (gvName 2) gvNil))))
    (sRet (mCall tupF (mCons (mLc (miRng1 (mCons (mVar 1) mNil)) (gvName 3) mYes (mBin ixF (mLst (mCons (mFn 1 m__law_text [] (mCons (mVar 0) mNil)) (mCons (mBin ixF (mLst (mCons (mC (.str (Str.ofString "a"))) (mCons (mC (.str (Str.ofString "lists"))) (mCons (mC (.str (Str.ofString "zzzzzzzz"))) mNil)))) (mFn 2 m__law_take [] (mCons (mVar 0) (mCons (mC (.int 3)) mNil)))) mNil))) (mVar 2)) [3]) mNil))))

def m__law_bent : List D → MD := runM 4 (sSeq (sPar 2 3 (mCons (mFn 2 m__law_take [] (mCons (mVar 0) (mCons (mBin addF (mCall lenF (mCons (mVar 1) mNil)) (mC (.int 1))) mNil))) (mCons (mFn 2 m__law_take [] (mCons (mVar 0) (mCons (mC (.int 4)) mNil))) mNil)))
    (sSeq (sIf (mTest (mBin eqG (mVar 3) (mC (.int 0)))) (sRet (mCall lstF (mCons (mVar 1) mNil))) sNext)
    (sRet (mBin addF (mBin addF (mSl slF (mVar 1) mNoPart (mPart (mVar 2))) (mBin mulG (mTup (mCons (mFn 1 m__law_odd [] (mCons (mVar 0) mNil)) mNil)) (mCall intF (mCons (mBin gtF (mVar 3) (mC (.int 1))) mNil)))) (mSl slF (mVar 1) (mPart (mBin addF (mVar 2) (mCall intF (mCons (mBin ltF (mVar 3) (mC (.int 3))) mNil)))) mNoPart)))))

def m__law_due : List D → MD := runM 4 (sSeq (sAsg (mAndV (mFn 1 m__law_is_couple [] (mCons (mVar 0) mNil)) (mAndV (mFn 1 m__law_is_name [] (mCons (mBin ixF (mVar 0) (mC (.int 0))) mNil)) (mFn 1 m__law_is_word [] (mCons (mBin ixF (mVar 0) (mC (.int 1))) mNil)))) (gvName 1))
    (sSeq (sAsg (mAndV (mFn 1 m__law_is_couple [] (mCons (mVar 0) mNil)) (mAndV (mFn 1 m__law_is_word [] (mCons (mBin ixF (mVar 0) (mC (.int 0))) mNil)) (mFn 1 m__law_is_word [] (mCons (mBin ixF (mVar 0) (mC (.int 1))) mNil)))) (gvName 2))
    (sSeq (sAsg (mLst (mCons (mFn 3 m__law_within [] (mCons (mVar 0) (mCons (mUn negF (mBin powF (mC (.int 10)) (mC (.int 60)))) (mCons (mBin powF (mC (.int 10)) (mC (.int 60))) mNil)))) (mCons (mFn 1 m__law_is_word [] (mCons (mVar 0) mNil)) (mCons (mFn 1 m__law_is_name [] (mCons (mVar 0) mNil)) (mCons (mVar 1) mNil))))) (gvName 3))
    (sRet (mBin addF (mVar 3) (mLst (mCons (mFn 3 m__law_within [] (mCons (mVar 0) (mCons (mC (.int 0)) (mCons (mBin powF (mC (.int 10)) (mC (.int 9))) mNil)))) (mCons (mOrV (mBin isF (mVar 0) (mC .non)) (mFn 3 m__law_within [] (mCons (mVar 0) (mCons (mC (.int 0)) (mCons (mC (.int 8)) mNil))))) (mCons (mVar 2) mNil)))))))))

def m__law_thing : List D → MD := runM 3 (sSeq (sAsg (mFn 2 m__law_take [] (mCons (mVar 0) (mCons (mC (.int 6)) mNil))) (gvName 1))
    (sSeq (sIf (mTest (mBin ltF (mVar 1) (mC (.int 2)))) (sRet (mBin ixF (mLst (mCons (mFn 1 m__law_number [] (mCons (mVar 0) mNil)) (mCons (mFn 1 m__law_text [] (mCons (mVar 0) mNil)) mNil))) (mVar 1))) sNext)
    (sSeq (sIf (mTest (mBin eqG (mVar 1) (mC (.int 2)))) (sRet (mFn 1 m__law_odd [] (mCons (mVar 0) mNil))) sNext)
    (sSeq (sAsg (mBin ixF (mLst (mCons (mFn 1 m__law_any_name [] (mCons (mVar 0) mNil)) (mCons (mTup (mCons (mFn 1 m__law_any_name [] (mCons (mVar 0) mNil)) (mCons (mFn 1 m__law_text [] (mCons (mVar 0) mNil)) mNil))) (mCons (mTup (mCons (mFn 1 m__law_text [] (mCons (mVar 0) mNil)) (mCons (mFn 1 m__law_text [] (mCons (mVar 0) mNil)) mNil))) mNil)))) (mBin subF (mVar 1) (mC (.int 3)))) (gvName 2))
    (sRet (mIf (mTest (mBin eqG (mFn 2 m__law_take [] (mCons (mVar 0) (mCons (mC (.int 3)) mNil))) (mC (.int 0)))) (mFn 2 m__law_bent [] (mCons (mVar 0) (mCons (mVar 2) mNil))) (mVar 2)))))))

def m__law_asked : List D → MD := runM 2 (sSeq (sAsg (mLst (mCons (mFn 1 m_is_integer [] (mCons (mVar 0) mNil)) (mCons (mFn 1 m_is_word [] (mCons (mVar 0) mNil)) (mCons (mFn 1 m_is_name [] (mCons (mVar 0) mNil)) (mCons (mFn 1 m_is_holder [] (mCons (mVar 0) mNil)) mNil))))) (gvName 1))
    (sRet (mBin addF (mVar 1) (mLst (mCons (mFn 1 m_is_day [] (mCons (mVar 0) mNil)) (mCons (mFn 1 m_is_count [] (mCons (mVar 0) mNil)) (mCons (mFn 1 m_is_pair [] (mCons (mVar 0) mNil)) mNil)))))))

structure Txt (K : PySem.W.Frag) (mg : Str → Option Value) where
  f_is_integer : Addr
  d_is_integer : FuncData
  F_is_integer : Fun K "is_integer" "is_integer" s_is_integer f_is_integer d_is_integer
  b_is_integer : Binds K d_is_integer ["thing"] []
  g_is_integer : mg "is_integer" = some (.ref f_is_integer)
  f_is_word : Addr
  d_is_word : FuncData
  F_is_word : Fun K "is_word" "is_word" s_is_word f_is_word d_is_word
  b_is_word : Binds K d_is_word ["thing"] []
  g_is_word : mg "is_word" = some (.ref f_is_word)
  f_is_name : Addr
  d_is_name : FuncData
  F_is_name : Fun K "is_name" "is_name" s_is_name f_is_name d_is_name
  b_is_name : Binds K d_is_name ["thing"] []
  g_is_name : mg "is_name" = some (.ref f_is_name)
  f_is_holder : Addr
  d_is_holder : FuncData
  F_is_holder : Fun K "is_holder" "is_holder" s_is_holder f_is_holder d_is_holder
  b_is_holder : Binds K d_is_holder ["thing"] []
  g_is_holder : mg "is_holder" = some (.ref f_is_holder)
  f_is_day : Addr
  d_is_day : FuncData
  F_is_day : Fun K "is_day" "is_day" s_is_day f_is_day d_is_day
  b_is_day : Binds K d_is_day ["thing"] []
  g_is_day : mg "is_day" = some (.ref f_is_day)
  f_is_count : Addr
  d_is_count : FuncData
  F_is_count : Fun K "is_count" "is_count" s_is_count f_is_count d_is_count
  b_is_count : Binds K d_is_count ["thing"] []
  g_is_count : mg "is_count" = some (.ref f_is_count)
  f_is_pair : Addr
  d_is_pair : FuncData
  F_is_pair : Fun K "is_pair" "is_pair" s_is_pair f_is_pair d_is_pair
  b_is_pair : Binds K d_is_pair ["thing"] []
  g_is_pair : mg "is_pair" = some (.ref f_is_pair)
  f__law_bag : Addr
  d__law_bag : FuncData
  F__law_bag : Fun K "_law_bag" "_law_bag" s__law_bag f__law_bag d__law_bag
  b__law_bag : Binds K d__law_bag ["_law_script"] []
  g__law_bag : mg "_law_bag" = some (.ref f__law_bag)
  f__law_take : Addr
  d__law_take : FuncData
  F__law_take : Fun K "_law_take" "_law_take" s__law_take f__law_take d__law_take
  b__law_take : Binds K d__law_take ["_law_bag_here", "_law_many"] []
  g__law_take : mg "_law_take" = some (.ref f__law_take)
  f__law_within : Addr
  d__law_within : FuncData
  F__law_within : Fun K "_law_within" "_law_within" s__law_within f__law_within d__law_within
  b__law_within : Binds K d__law_within ["_law_thing_here", "_law_low", "_law_high"] []
  g__law_within : mg "_law_within" = some (.ref f__law_within)
  f__law_is_word : Addr
  d__law_is_word : FuncData
  F__law_is_word : Fun K "_law_is_word" "_law_is_word" s__law_is_word f__law_is_word d__law_is_word
  b__law_is_word : Binds K d__law_is_word ["_law_thing_here"] []
  g__law_is_word : mg "_law_is_word" = some (.ref f__law_is_word)
  f__law_is_name : Addr
  d__law_is_name : FuncData
  F__law_is_name : Fun K "_law_is_name" "_law_is_name" s__law_is_name f__law_is_name d__law_is_name
  b__law_is_name : Binds K d__law_is_name ["_law_thing_here"] []
  g__law_is_name : mg "_law_is_name" = some (.ref f__law_is_name)
  f__law_is_couple : Addr
  d__law_is_couple : FuncData
  F__law_is_couple : Fun K "_law_is_couple" "_law_is_couple" s__law_is_couple f__law_is_couple d__law_is_couple
  b__law_is_couple : Binds K d__law_is_couple ["_law_thing_here"] []
  g__law_is_couple : mg "_law_is_couple" = some (.ref f__law_is_couple)
  f__law_number : Addr
  d__law_number : FuncData
  F__law_number : Fun K "_law_number" "_law_number" s__law_number f__law_number d__law_number
  b__law_number : Binds K d__law_number ["_law_bag_here"] []
  g__law_number : mg "_law_number" = some (.ref f__law_number)
  f__law_text : Addr
  d__law_text : FuncData
  F__law_text : Fun K "_law_text" "_law_text" s__law_text f__law_text d__law_text
  b__law_text : Binds K d__law_text ["_law_bag_here"] []
  g__law_text : mg "_law_text" = some (.ref f__law_text)
  f__law_any_name : Addr
  d__law_any_name : FuncData
  F__law_any_name : Fun K "_law_any_name" "_law_any_name" s__law_any_name f__law_any_name d__law_any_name
  b__law_any_name : Binds K d__law_any_name ["_law_bag_here"] []
  g__law_any_name : mg "_law_any_name" = some (.ref f__law_any_name)
  f__law_odd : Addr
  d__law_odd : FuncData
  F__law_odd : Fun K "_law_odd" "_law_odd" s__law_odd f__law_odd d__law_odd
  b__law_odd : Binds K d__law_odd ["_law_bag_here"] []
  g__law_odd : mg "_law_odd" = some (.ref f__law_odd)
  f__law_bent : Addr
  d__law_bent : FuncData
  F__law_bent : Fun K "_law_bent" "_law_bent" s__law_bent f__law_bent d__law_bent
  b__law_bent : Binds K d__law_bent ["_law_bag_here", "_law_thing_here"] []
  g__law_bent : mg "_law_bent" = some (.ref f__law_bent)
  f__law_thing : Addr
  d__law_thing : FuncData
  F__law_thing : Fun K "_law_thing" "_law_thing" s__law_thing f__law_thing d__law_thing
  b__law_thing : Binds K d__law_thing ["_law_bag_here"] []
  g__law_thing : mg "_law_thing" = some (.ref f__law_thing)
  f__law_due : Addr
  d__law_due : FuncData
  F__law_due : Fun K "_law_due" "_law_due" s__law_due f__law_due d__law_due
  b__law_due : Binds K d__law_due ["_law_thing_here"] []
  g__law_due : mg "_law_due" = some (.ref f__law_due)
  f__law_asked : Addr
  d__law_asked : FuncData
  F__law_asked : Fun K "_law_asked" "_law_asked" s__law_asked f__law_asked d__law_asked
  b__law_asked : Binds K d__law_asked ["_law_thing_here"] []
  g__law_asked : mg "_law_asked" = some (.ref f__law_asked)
  f_law : Addr
  d_law : FuncData
  F_law : Fun K "law" "law" s_law f_law d_law
  b_law : Binds K d_law ["_law_script"] []
  g_law : mg "law" = some (.ref f_law)
  z_abs : mg "abs" = none
  z_all : mg "all" = none
  z_bool : mg "bool" = none
  z_int : mg "int" = none
  z_isinstance : mg "isinstance" = none
  z_len : mg "len" = none
  z_list : mg "list" = none
  z_range : mg "range" = none
  z_repr : mg "repr" = none
  z_str : mg "str" = none
  z_tuple : mg "tuple" = none
  c_GREATEST_COUNT : ∃ u, mg "GREATEST_COUNT" = some (.int 8 u)
  c_LAST_DAY : ∃ u, mg "LAST_DAY" = some (.int 1000000000 u)
  c_LETTERS : ∃ u, mg "LETTERS" = some (.str (Str.ofString "abcdefghijklmnopqrstuvwxyz") u)
  c_LONGEST_WORD : ∃ u, mg "LONGEST_WORD" = some (.int 8 u)

section
variable {P : Program} {w : World} {K : PySem.W.Frag} {mg : Str → Option Value} {base : Heap}
theorem ok_is_integer (T : Txt K mg) : FnG P w K mg base CX0 1 T.f_is_integer T.d_is_integer ["thing"] (spM K 1 m_is_integer) := by
  refine fnG_of (k := 0) T.F_is_integer sc_is_integer (fun vs H Q E h => spM_len h) (fun cdv A outer s H vs Q E hr hq h => ?_)
  refine ⟨_, PSs.nox
    (pss_one (ps_ret (pe_and (pe_callB (isiK (K := K) rfl) (by rfl) T.z_isinstance bt_isinstance (pa_cons (pv 0) (pa_cons (pe_bltn (v := .ty "int") (by rfl) T.z_int bt_int rfl) pa_nil))) (pe_one (pe_not (pe_callB (isiK (K := K) rfl) (by rfl) T.z_isinstance bt_isinstance (pa_cons (pv 0) (pa_cons (pe_bltn (v := .ty "bool") (by rfl) T.z_bool bt_bool rfl) pa_nil)))))))), ?_⟩
  exact body_of h (fun b =>
    (evs_ret (evd_andV (evd_cb calld_isi (eva_cons evd_var (eva_cons evd_ty eva_nil))) (evd_notV (evd_cb calld_isi (eva_cons evd_var (eva_cons evd_ty eva_nil))))))) (fun ds Qd hl q => q)

theorem ok_is_word (T : Txt K mg) : FnG P w K mg base CX0 1 T.f_is_word T.d_is_word ["thing"] (spM K 1 m_is_word) := by
  refine fnG_of (k := 0) T.F_is_word sc_is_word (fun vs H Q E h => spM_len h) (fun cdv A outer s H vs Q E hr hq h => ?_)
  refine ⟨_, PSs.nox
    (pss_cons (ps_if (PW.pt (pw_or (pt_not (pt_truthK (K := K) rfl (pe_callB (isiK (K := K) rfl) (by rfl) T.z_isinstance bt_isinstance (pa_cons (pv 0) (pa_cons (pe_bltn (v := .ty "str") (by rfl) T.z_str bt_str rfl) pa_nil))))) (pw_or1 (pt_not (pt_chain op_le op_le pe_int (pe_callB (lenK (K := K) rfl) (by rfl) T.z_len bt_len (pa_cons (pv 0) pa_nil)) (pe_glob (v := (.int 8)) rfl T.c_LONGEST_WORD.choose_spec ⟨_, rfl⟩)))))) (pss_one (ps_ret pe_bl)) pss_nil)
      (pss_one (ps_ret (pe_callB (allK (K := K) rfl rfl) (by rfl) T.z_all bt_all (pa_cons (pe_lc (own := [("letter", 1)]) rfl sc_is_word.nd (pi_str (pv 0)) (blkOk_by (N := N_is_word) (sc := defScope s_is_word) (by decide +kernel)) (fun _ _ _ _ _ => (pg_name (i := 1) sc_is_word.nd rfl (by first | exact Or.inl rfl | exact Or.inr rfl))) (fun _ _ _ _ _ => pts_nil) (fun _ _ _ _ _ => (pe_cmpR op_inC (pv 1) (pe_glob (v := (.str (Str.ofString "abcdefghijklmnopqrstuvwxyz"))) rfl T.c_LETTERS.choose_spec ⟨_, rfl⟩) (by rfl)))) pa_nil))))), ?_⟩
  exact body_of h (fun b =>
    (evs_seq (evs_if (evt_or (evt_not (evt_truK (evd_cb calld_isi (eva_cons evd_var (eva_cons evd_ty eva_nil))))) (evt_not (evt_test (evd_chain opd_le opd_le evd_int (evd_cb calld_len (eva_cons evd_var eva_nil)) evd_int)))) (evs_ret evd_bl) evs_next)
      (evs_ret (evd_cb calld_all (eva_cons (evd_lc (evi_str evd_var) evg_name (by decide) evt_yes (evd_op opd_inC evd_var evd_str)) eva_nil))))) (fun ds Qd hl q => q)

theorem ok__law_within (T : Txt K mg) : FnG P w K mg base CX0 1 T.f__law_within T.d__law_within ["_law_thing_here", "_law_low", "_law_high"] (spM K 3 m__law_within) := by
  refine fnG_of (k := 0) T.F__law_within sc__law_within (fun vs H Q E h => spM_len h) (fun cdv A outer s H vs Q E hr hq h => ?_)
  refine ⟨_, PSs.nox
    (pss_one (ps_ret (pe_and (pe_callB (isiK (K := K) rfl) (by rfl) T.z_isinstance bt_isinstance (pa_cons (pv 0) (pa_cons (pe_bltn (v := .ty "int") (by rfl) T.z_int bt_int rfl) pa_nil))) (pe_and (pe_not (pe_callB (isiK (K := K) rfl) (by rfl) T.z_isinstance bt_isinstance (pa_cons (pv 0) (pa_cons (pe_bltn (v := .ty "bool") (by rfl) T.z_bool bt_bool rfl) pa_nil)))) (pe_one (pe_chain op_le op_le (pv 1) (pv 0) (pv 2))))))), ?_⟩
  exact body_of h (fun b =>
    (evs_ret (evd_andV (evd_cb calld_isi (eva_cons evd_var (eva_cons evd_ty eva_nil))) (evd_andV (evd_notV (evd_cb calld_isi (eva_cons evd_var (eva_cons evd_ty eva_nil)))) (evd_chain opd_le opd_le evd_var evd_var evd_var))))) (fun ds Qd hl q => q)

theorem ok__law_is_word (T : Txt K mg) : FnG P w K mg base CX0 1 T.f__law_is_word T.d__law_is_word ["_law_thing_here"] (spM K 1 m__law_is_word) := by
  refine fnG_of (k := 0) T.F__law_is_word sc__law_is_word (fun vs H Q E h => spM_len h) (fun cdv A outer s H vs Q E hr hq h => ?_)
  refine ⟨_, PSs.nox
    (pss_cons (ps_if (PW.pt (pw_or (pt_not (pt_truthK (K := K) rfl (pe_callB (isiK (K := K) rfl) (by rfl) T.z_isinstance bt_isinstance (pa_cons (pv 0) (pa_cons (pe_bltn (v := .ty "str") (by rfl) T.z_str bt_str rfl) pa_nil))))) (pw_or (pt_cmpR op_lt (pe_callB (lenK (K := K) rfl) (by rfl) T.z_len bt_len (pa_cons (pv 0) pa_nil)) pe_int (nomark _)) (pw_or1 (pt_cmpR op_gt (pe_callB (lenK (K := K) rfl) (by rfl) T.z_len bt_len (pa_cons (pv 0) pa_nil)) pe_int (nomark _)))))) (pss_one (ps_ret pe_bl)) pss_nil)
      (pss_one (ps_ret (pe_cmpR (eqGK (K := K) rfl hr.units) (pe_lc (own := [("_law_sign", 1)]) rfl sc__law_is_word.nd (pi_str (pv 0)) (blkOk_by (N := N__law_is_word) (sc := defScope s__law_is_word) (by decide +kernel)) (fun _ _ _ _ _ => (pg_name (i := 1) sc__law_is_word.nd rfl (by first | exact Or.inl rfl | exact Or.inr rfl))) (fun _ _ _ _ _ => pts_one (pt_cmpR op_niC (pv 1) pe_str (by rfl))) (fun _ _ _ _ _ => (pv 1))) (pe_lst pa_nil) (nomark _))))), ?_⟩
  exact body_of h (fun b =>
    (evs_seq (evs_if (evt_or (evt_not (evt_truK (evd_cb calld_isi (eva_cons evd_var (eva_cons evd_ty eva_nil))))) (evt_or (evt_test (evd_op opd_lt (evd_cb calld_len (eva_cons evd_var eva_nil)) evd_int)) (evt_test (evd_op opd_gt (evd_cb calld_len (eva_cons evd_var eva_nil)) evd_int)))) (evs_ret evd_bl) evs_next)
      (evs_ret (evd_op opd_eqG (evd_lc (evi_str evd_var) evg_name (by decide) (evt_test (evd_op opd_niC evd_var evd_str)) evd_var) (evd_lst eva_nil))))) (fun ds Qd hl q => q)

theorem ok__law_is_couple (T : Txt K mg) : FnG P w K mg base CX0 1 T.f__law_is_couple T.d__law_is_couple ["_law_thing_here"] (spM K 1 m__law_is_couple) := by
  refine fnG_of (k := 0) T.F__law_is_couple sc__law_is_couple (fun vs H Q E h => spM_len h) (fun cdv A outer s H vs Q E hr hq h => ?_)
  refine ⟨_, PSs.nox
    (pss_one (ps_ret (pe_and (pe_callB (isiK (K := K) rfl) (by rfl) T.z_isinstance bt_isinstance (pa_cons (pv 0) (pa_cons (pe_bltn (v := .ty "tuple") (by rfl) T.z_tuple bt_tuple rfl) pa_nil))) (pe_one (pe_cmpR (eqGK (K := K) rfl hr.units) (pe_callB (lenK (K := K) rfl) (by rfl) T.z_len bt_len (pa_cons (pv 0) pa_nil)) pe_int (nomark _)))))), ?_⟩
  exact body_of h (fun b =>
    (evs_ret (evd_andV (evd_cb calld_isi (eva_cons evd_var (eva_cons evd_ty eva_nil))) (evd_op opd_eqG (evd_cb calld_len (eva_cons evd_var eva_nil)) evd_int)))) (fun ds Qd hl q => q)

theorem ok_is_name (T : Txt K mg) (G_is_word : FnG P w K mg base CX0 1 T.f_is_word T.d_is_word ["thing"] (spM K 1 m_is_word)) : FnG P w K mg base CX0 2 T.f_is_name T.d_is_name ["thing"] (spM K 1 m_is_name) := by
  refine fnG_of (k := 1) T.F_is_name sc_is_name (fun vs H Q E h => spM_len h) (fun cdv A outer s H vs Q E hr hq h => ?_)
  refine ⟨_, PSs.nox
    (pss_one (ps_ret (pe_and (pe_callB (isiK (K := K) rfl) (by rfl) T.z_isinstance bt_isinstance (pa_cons (pv 0) (pa_cons (pe_bltn (v := .ty "tuple") (by rfl) T.z_tuple bt_tuple rfl) pa_nil))) (pe_one (pe_callB (allK (K := K) rfl rfl) (by rfl) T.z_all bt_all (pa_cons (pe_lc (own := [("label", 1)]) rfl sc_is_name.nd (pi_tupK (K := K) rfl (pv 0)) (blkOk_by (N := N_is_name) (sc := defScope s_is_name) (by decide +kernel)) (fun _ _ _ _ _ => (pg_name (i := 1) sc_is_name.nd rfl (by first | exact Or.inl rfl | exact Or.inr rfl))) (fun _ _ _ _ _ => pts_nil) (fun _ _ _ _ _ => (peG G_is_word (hr.mono (by decide)) hq rfl T.g_is_word T.F_is_word.kp T.b_is_word .nil pass0 (pa_cons (pv 1) pa_nil)))) pa_nil)))))), ?_⟩
  exact body_of h (fun b =>
    (evs_ret (evd_andV (evd_cb calld_isi (eva_cons evd_var (eva_cons evd_ty eva_nil))) (evd_cb calld_all (eva_cons (evd_lc (evi_tup evd_var) evg_name (by decide) evt_yes (evd_call (fun _ _ => .nil) (eva_cons evd_var eva_nil))) eva_nil))))) (fun ds Qd hl q => q)

theorem ok_is_day (T : Txt K mg) (G_is_integer : FnG P w K mg base CX0 1 T.f_is_integer T.d_is_integer ["thing"] (spM K 1 m_is_integer)) : FnG P w K mg base CX0 2 T.f_is_day T.d_is_day ["thing"] (spM K 1 m_is_day) := by
  refine fnG_of (k := 1) T.F_is_day sc_is_day (fun vs H Q E h => spM_len h) (fun cdv A outer s H vs Q E hr hq h => ?_)
  refine ⟨_, PSs.nox
    (pss_one (ps_ret (pe_and (peG G_is_integer (hr.mono (by decide)) hq rfl T.g_is_integer T.F_is_integer.kp T.b_is_integer .nil pass0 (pa_cons (pv 0) pa_nil)) (pe_one (pe_chain op_le op_le pe_int (pv 0) (pe_glob (v := (.int 1000000000)) rfl T.c_LAST_DAY.choose_spec ⟨_, rfl⟩)))))), ?_⟩
  exact body_of h (fun b =>
    (evs_ret (evd_andV (evd_call (fun _ _ => .nil) (eva_cons evd_var eva_nil)) (evd_chain opd_le opd_le evd_int evd_var evd_int)))) (fun ds Qd hl q => q)

theorem ok_is_count (T : Txt K mg) (G_is_integer : FnG P w K mg base CX0 1 T.f_is_integer T.d_is_integer ["thing"] (spM K 1 m_is_integer)) : FnG P w K mg base CX0 2 T.f_is_count T.d_is_count ["thing"] (spM K 1 m_is_count) := by
  refine fnG_of (k := 1) T.F_is_count sc_is_count (fun vs H Q E h => spM_len h) (fun cdv A outer s H vs Q E hr hq h => ?_)
  refine ⟨_, PSs.nox
    (pss_one (ps_ret (pe_or (pe_cmpR op_isU (pv 0) pe_non (nomark _)) (pe_one (pe_and (peG G_is_integer (hr.mono (by decide)) hq rfl T.g_is_integer T.F_is_integer.kp T.b_is_integer .nil pass0 (pa_cons (pv 0) pa_nil)) (pe_one (pe_chain op_le op_le pe_int (pv 0) (pe_glob (v := (.int 8)) rfl T.c_GREATEST_COUNT.choose_spec ⟨_, rfl⟩)))))))), ?_⟩
  exact body_of h (fun b =>
    (evs_ret (evd_orV (evd_op opd_is evd_var evd_non) (evd_andV (evd_call (fun _ _ => .nil) (eva_cons evd_var eva_nil)) (evd_chain opd_le opd_le evd_int evd_var evd_int))))) (fun ds Qd hl q => q)

theorem ok_is_pair (T : Txt K mg) (G_is_word : FnG P w K mg base CX0 1 T.f_is_word T.d_is_word ["thing"] (spM K 1 m_is_word)) : FnG P w K mg base CX0 2 T.f_is_pair T.d_is_pair ["thing"] (spM K 1 m_is_pair) := by
  refine fnG_of (k := 1) T.F_is_pair sc_is_pair (fun vs H Q E h => spM_len h) (fun cdv A outer s H vs Q E hr hq h => ?_)
  refine ⟨_, PSs.nox
    (pss_one (ps_ret (pe_and (pe_callB (isiK (K := K) rfl) (by rfl) T.z_isinstance bt_isinstance (pa_cons (pv 0) (pa_cons (pe_bltn (v := .ty "tuple") (by rfl) T.z_tuple bt_tuple rfl) pa_nil))) (pe_and (pe_cmpR (eqGK (K := K) rfl hr.units) (pe_callB (lenK (K := K) rfl) (by rfl) T.z_len bt_len (pa_cons (pv 0) pa_nil)) pe_int (nomark _)) (pe_and (peG G_is_word (hr.mono (by decide)) hq rfl T.g_is_word T.F_is_word.kp T.b_is_word .nil pass0 (pa_cons (pe_ix (ixK (K := K) rfl) (pv 0) pe_int (fun _ _ => rfl)) pa_nil)) (pe_one (peG G_is_word (hr.mono (by decide)) hq rfl T.g_is_word T.F_is_word.kp T.b_is_word .nil pass0 (pa_cons (pe_ix (ixK (K := K) rfl) (pv 0) pe_int (fun _ _ => rfl)) pa_nil)))))))), ?_⟩
  exact body_of h (fun b =>
    (evs_ret (evd_andV (evd_cb calld_isi (eva_cons evd_var (eva_cons evd_ty eva_nil))) (evd_andV (evd_op opd_eqG (evd_cb calld_len (eva_cons evd_var eva_nil)) evd_int) (evd_andV (evd_call (fun _ _ => .nil) (eva_cons (evd_op opd_ix evd_var evd_int) eva_nil)) (evd_call (fun _ _ => .nil) (eva_cons (evd_op opd_ix evd_var evd_int) eva_nil))))))) (fun ds Qd hl q => q)

theorem ok__law_is_name (T : Txt K mg) (G__law_is_word : FnG P w K mg base CX0 1 T.f__law_is_word T.d__law_is_word ["_law_thing_here"] (spM K 1 m__law_is_word)) : FnG P w K mg base CX0 2 T.f__law_is_name T.d__law_is_name ["_law_thing_here"] (spM K 1 m__law_is_name) := by
  refine fnG_of (k := 1) T.F__law_is_name sc__law_is_name (fun vs H Q E h => spM_len h) (fun cdv A outer s H vs Q E hr hq h => ?_)
  refine ⟨_, PSs.nox
    (pss_one (ps_ret (pe_and (pe_callB (isiK (K := K) rfl) (by rfl) T.z_isinstance bt_isinstance (pa_cons (pv 0) (pa_cons (pe_bltn (v := .ty "tuple") (by rfl) T.z_tuple bt_tuple rfl) pa_nil))) (pe_one (pe_cmpR (eqGK (K := K) rfl hr.units) (pe_lc (own := [("_law_part", 1)]) rfl sc__law_is_name.nd (pi_tupK (K := K) rfl (pv 0)) (blkOk_by (N := N__law_is_name) (sc := defScope s__law_is_name) (by decide +kernel)) (fun _ _ _ _ _ => (pg_name (i := 1) sc__law_is_name.nd rfl (by first | exact Or.inl rfl | exact Or.inr rfl))) (fun _ _ _ _ _ => pts_one (pt_not (pt_truthK (K := K) rfl (peG G__law_is_word (hr.mono (by decide)) hq rfl T.g__law_is_word T.F__law_is_word.kp T.b__law_is_word .nil pass0 (pa_cons (pv 1) pa_nil))))) (fun _ _ _ _ _ => (pv 1))) (pe_lst pa_nil) (nomark _)))))), ?_⟩
  exact body_of h (fun b =>
    (evs_ret (evd_andV (evd_cb calld_isi (eva_cons evd_var (eva_cons evd_ty eva_nil))) (evd_op opd_eqG (evd_lc (evi_tup evd_var) evg_name (by decide) (evt_not (evt_truK (evd_call (fun _ _ => .nil) (eva_cons evd_var eva_nil)))) evd_var) (evd_lst eva_nil))))) (fun ds Qd hl q => q)

theorem ok__law_number (T : Txt K mg) (G__law_take : FnG P w K mg base CX0 1 T.f__law_take T.d__law_take ["_law_bag_here", "_law_many"] (spM K 2 takeM)) : FnG P w K mg base CX0 2 T.f__law_number T.d__law_number ["_law_bag_here"] (spM K 1 m__law_number) := by
  refine fnG_of (k := 1) T.F__law_number sc__law_number (fun vs H Q E h => spM_len h) (fun cdv A outer s H vs Q E hr hq h => ?_)
  refine ⟨_, PSs.nox
    (pss_cons (ps_set (i := 1) sc__law_number.nd rfl (by first | exact Or.inl rfl | exact Or.inr rfl) (pe_lst (pa_cons pe_int (pa_cons pe_int (pa_cons (pe_op op_pow pe_int pe_int) (pa_cons (peG G__law_take (hr.mono (by decide)) hq rfl T.g__law_take T.F__law_take.kp T.b__law_take .nil pass0 (pa_cons (pv 0) (pa_cons (pe_op (addK (K := K) rfl) (pe_op op_pow pe_int pe_int) pe_int) pa_nil))) (pa_cons (peG G__law_take (hr.mono (by decide)) hq rfl T.g__law_take T.F__law_take.kp T.b__law_take .nil pass0 (pa_cons (pv 0) (pa_cons (pe_op op_pow pe_int pe_int) pa_nil))) (pa_cons (pe_op op_sub pe_int (peG G__law_take (hr.mono (by decide)) hq rfl T.g__law_take T.F__law_take.kp T.b__law_take .nil pass0 (pa_cons (pv 0) (pa_cons (pe_op op_pow pe_int pe_int) pa_nil)))) (pa_cons pe_int pa_nil)))))))))
      (pss_one (ps_ret (pe_op op_sub (pe_op (addK (K := K) rfl) (pe_ix (ixK (K := K) rfl) (pv 1) (peG G__law_take (hr.mono (by decide)) hq rfl T.g__law_take T.F__law_take.kp T.b__law_take .nil pass0 (pa_cons (pv 0) (pa_cons pe_int pa_nil))) (fun _ _ => rfl)) (peG G__law_take (hr.mono (by decide)) hq rfl T.g__law_take T.F__law_take.kp T.b__law_take .nil pass0 (pa_cons (pv 0) (pa_cons pe_int pa_nil)))) pe_int)))), ?_⟩
  exact body_of h (fun b =>
    (evs_seq (evs_asg (evd_lst (eva_cons evd_int (eva_cons evd_int (eva_cons (evd_op opd_pow evd_int evd_int) (eva_cons (evd_call (fun _ _ => .nil) (eva_cons evd_var (eva_cons (evd_op opd_add (evd_op opd_pow evd_int evd_int) evd_int) eva_nil))) (eva_cons (evd_call (fun _ _ => .nil) (eva_cons evd_var (eva_cons (evd_op opd_pow evd_int evd_int) eva_nil))) (eva_cons (evd_op opd_sub evd_int (evd_call (fun _ _ => .nil) (eva_cons evd_var (eva_cons (evd_op opd_pow evd_int evd_int) eva_nil)))) (eva_cons evd_int eva_nil)))))))) evg_name)
      (evs_ret (evd_op opd_sub (evd_op opd_add (evd_op opd_ix evd_var (evd_call (fun _ _ => .nil) (eva_cons evd_var (eva_cons evd_int eva_nil)))) (evd_call (fun _ _ => .nil) (eva_cons evd_var (eva_cons evd_int eva_nil)))) evd_int)))) (fun ds Qd hl q => q)

theorem ok__law_text (T : Txt K mg) (G__law_take : FnG P w K mg base CX0 1 T.f__law_take T.d__law_take ["_law_bag_here", "_law_many"] (spM K 2 takeM)) : FnG P w K mg base CX0 2 T.f__law_text T.d__law_text ["_law_bag_here"] (spM K 1 m__law_text) := by
  refine fnG_of (k := 1) T.F__law_text sc__law_text (fun vs H Q E h => spM_len h) (fun cdv A outer s H vs Q E hr hq h => ?_)
  refine ⟨_, PSs.nox
    (pss_cons (ps_set (i := 1) sc__law_text.nd rfl (by first | exact Or.inl rfl | exact Or.inr rfl) pe_str)
      (pss_cons (ps_set (i := 2) sc__law_text.nd rfl (by first | exact Or.inl rfl | exact Or.inr rfl) (pe_op (addK (K := K) rfl) pe_str (pe_upK (pv 1))))
      (pss_cons (ps_set (i := 3) sc__law_text.nd rfl (by first | exact Or.inl rfl | exact Or.inr rfl) (pe_ix (ixK (K := K) rfl) (pe_lst (pa_cons (peG G__law_take (hr.mono (by decide)) hq rfl T.g__law_take T.F__law_take.kp T.b__law_take .nil pass0 (pa_cons (pv 0) (pa_cons pe_int pa_nil))) (pa_cons pe_int (pa_cons pe_int (pa_cons pe_int (pa_cons pe_int pa_nil)))))) (peG G__law_take (hr.mono (by decide)) hq rfl T.g__law_take T.F__law_take.kp T.b__law_take .nil pass0 (pa_cons (pv 0) (pa_cons pe_int pa_nil))) (fun _ _ => rfl)))
      (pss_cons (ps_set (i := 4) sc__law_text.nd rfl (by first | exact Or.inl rfl | exact Or.inr rfl) (pe_joinK (K := K) rfl pe_str (pe_lc (own := [("_law_k", 5)]) rfl sc__law_text.nd (pi_range1 (by rfl) T.z_range (pa_cons (pv 3) pa_nil)) (blkOk_by (N := N__law_text) (sc := defScope s__law_text) (by decide +kernel)) (fun _ _ _ _ _ => (pg_name (i := 5) sc__law_text.nd rfl (by first | exact Or.inl rfl | exact Or.inr rfl))) (fun _ _ _ _ _ => pts_nil) (fun _ _ _ _ _ => (pe_ix (ixK (K := K) rfl) (pv 1) (peG G__law_take (hr.mono (by decide)) hq rfl T.g__law_take T.F__law_take.kp T.b__law_take .nil pass0 (pa_cons (pv 0) (pa_cons pe_int pa_nil))) (fun _ _ => rfl))))))
      (pss_cons (ps_if (PW.pt (pw_or (pt_cmpR (eqGK (K := K) rfl hr.units) (pv 4) pe_str (nomark _)) (pw_or1 (pt_cmpR op_gt (peG G__law_take (hr.mono (by decide)) hq rfl T.g__law_take T.F__law_take.kp T.b__law_take .nil pass0 (pa_cons (pv 0) (pa_cons pe_int pa_nil))) pe_int (nomark _))))) (pss_one (ps_ret (pv 4))) pss_nil)
      (pss_cons (ps_set (i := 6) sc__law_text.nd rfl (by first | exact Or.inl rfl | exact Or.inr rfl) (peG G__law_take (hr.mono (by decide)) hq rfl T.g__law_take T.F__law_take.kp T.b__law_take .nil pass0 (pa_cons (pv 0) (pa_cons (pv 3) pa_nil))))
      (pss_one (ps_ret (pe_op (addK (K := K) rfl) (pe_op (addK (K := K) rfl) (pe_slice (slK (K := K) rfl) (pv 4) po_none (po_some (pv 6))) (pe_ix (ixK (K := K) rfl) (pv 2) (peG G__law_take (hr.mono (by decide)) hq rfl T.g__law_take T.F__law_take.kp T.b__law_take .nil pass0 (pa_cons (pv 0) (pa_cons (pe_callB (lenK (K := K) rfl) (by rfl) T.z_len bt_len (pa_cons (pv 2) pa_nil)) pa_nil))) (fun _ _ => rfl))) (pe_slice (slK (K := K) rfl) (pv 4) (po_some (pe_op (addK (K := K) rfl) (pv 6) pe_int)) po_none)))))))))), ?_⟩
  exact body_of h (fun b =>
    (evs_seq (evs_asg evd_str evg_name)
      (evs_seq (evs_asg (evd_op opd_add evd_str (evd_m0 und_up evd_var)) evg_name)
      (evs_seq (evs_asg (evd_op opd_ix (evd_lst (eva_cons (evd_call (fun _ _ => .nil) (eva_cons evd_var (eva_cons evd_int eva_nil))) (eva_cons evd_int (eva_cons evd_int (eva_cons evd_int (eva_cons evd_int eva_nil)))))) (evd_call (fun _ _ => .nil) (eva_cons evd_var (eva_cons evd_int eva_nil)))) evg_name)
      (evs_seq (evs_asg (evd_m1 opd_join evd_str (evd_lc (evi_rng1 (eva_cons evd_var eva_nil)) evg_name (by decide) evt_yes (evd_op opd_ix evd_var (evd_call (fun _ _ => .nil) (eva_cons evd_var (eva_cons evd_int eva_nil)))))) evg_name)
      (evs_seq (evs_if (evt_or (evt_test (evd_op opd_eqG evd_var evd_str)) (evt_test (evd_op opd_gt (evd_call (fun _ _ => .nil) (eva_cons evd_var (eva_cons evd_int eva_nil))) evd_int))) (evs_ret evd_var) evs_next)
      (evs_seq (evs_asg (evd_call (fun _ _ => .nil) (eva_cons evd_var (eva_cons evd_var eva_nil))) evg_name)
      (evs_ret (evd_op opd_add (evd_op opd_add (evd_sl sld_U evd_var evo_none (evo_some evd_var)) (evd_op opd_ix evd_var (evd_call (fun _ _ => .nil) (eva_cons evd_var (eva_cons (evd_cb calld_len (eva_cons evd_var eva_nil)) eva_nil))))) (evd_sl sld_U evd_var (evo_some (evd_op opd_add evd_var evd_int)) evo_none)))))))))) (fun ds Qd hl q => q)

theorem ok__law_odd (T : Txt K mg) (G__law_take : FnG P w K mg base CX0 1 T.f__law_take T.d__law_take ["_law_bag_here", "_law_many"] (spM K 2 takeM)) : FnG P w K mg base CX0 2 T.f__law_odd T.d__law_odd ["_law_bag_here"] (spM K 1 m__law_odd) := by
  refine fnG_of (k := 1) T.F__law_odd sc__law_odd (fun vs H Q E h => spM_len h) (fun cdv A outer s H vs Q E hr hq h => ?_)
  refine ⟨_, PSs.nox
    (pss_cons (ps_set (i := 1) sc__law_odd.nd rfl (by first | exact Or.inl rfl | exact Or.inr rfl) (pe_lst (pa_cons pe_non (pa_cons pe_bl (pa_cons pe_bl (pa_cons pe_str (pa_cons pe_str (pa_cons pe_int (pa_cons pe_int (pa_cons (pe_lst pa_nil) (pa_cons (pe_tup pa_nil) (pa_cons pe_dnewK (pa_cons (pe_disp (pps_cons pe_str pe_int pps_nil) (by rfl) (by rfl) (fun z => by cases z) (by decide)) (pa_cons (pe_lst (pa_cons (pe_lst pa_nil) pa_nil)) (pa_cons (pe_tup (pa_cons (pe_tup pa_nil) pa_nil)) (pa_cons (pe_tup (pa_cons (pe_tup (pa_cons pe_str pa_nil)) pa_nil)) (pa_cons (pe_tup (pa_cons pe_str (pa_cons pe_str pa_nil))) (pa_cons (pe_lst (pa_cons pe_str (pa_cons pe_str pa_nil))) pa_nil))))))))))))))))))
      (pss_cons (ps_set (i := 1) sc__law_odd.nd rfl (by first | exact Or.inl rfl | exact Or.inr rfl) (pe_op (addK (K := K) rfl) (pv 1) (pe_lst (pa_cons (pe_tup (pa_cons (pe_tup (pa_cons pe_str pa_nil)) (pa_cons pe_str pa_nil))) (pa_cons (pe_lst (pa_cons (pe_tup (pa_cons pe_str pa_nil)) (pa_cons pe_str pa_nil))) (pa_cons (pe_tup (pa_cons pe_str (pa_cons pe_str (pa_cons pe_str pa_nil)))) (pa_cons (pe_tup (pa_cons (pe_tup (pa_cons pe_str pa_nil)) (pa_cons pe_str pa_nil))) (pa_cons (pe_tup (pa_cons (pe_op (mulGK (K := K) rfl) pe_str pe_int) pa_nil)) (pa_cons (pe_op op_pow pe_int pe_int) (pa_cons (pe_tup (pa_cons pe_int (pa_cons pe_int pa_nil))) pa_nil))))))))))
      (pss_cons (ps_set (i := 1) sc__law_odd.nd rfl (by first | exact Or.inl rfl | exact Or.inr rfl) (pe_op (addK (K := K) rfl) (pv 1) (pe_lst (pa_cons (pe_op (mulGK (K := K) rfl) (pe_tup (pa_cons pe_str pa_nil)) pe_int) (pa_cons (pe_op (addK (K := K) rfl) (pe_op (mulGK (K := K) rfl) (pe_tup (pa_cons pe_str pa_nil)) pe_int) (pe_tup (pa_cons pe_str pa_nil))) pa_nil)))))
      (pss_one (ps_ret (pe_ix (ixK (K := K) rfl) (pv 1) (peG G__law_take (hr.mono (by decide)) hq rfl T.g__law_take T.F__law_take.kp T.b__law_take .nil pass0 (pa_cons (pv 0) (pa_cons pe_int pa_nil))) (fun _ _ => rfl))))))), ?_⟩
  exact body_of h (fun b =>
    (evs_seq (evs_asg (evd_lst (eva_cons evd_non (eva_cons evd_bl (eva_cons evd_bl (eva_cons evd_str (eva_cons evd_str (eva_cons evd_int (eva_cons evd_int (eva_cons (evd_lst eva_nil) (eva_cons (evd_tup eva_nil) (eva_cons evd_dnew (eva_cons (evd_disp (evp_cons evd_str evd_int evp_nil)) (eva_cons (evd_lst (eva_cons (evd_lst eva_nil) eva_nil)) (eva_cons (evd_tup (eva_cons (evd_tup eva_nil) eva_nil)) (eva_cons (evd_tup (eva_cons (evd_tup (eva_cons evd_str eva_nil)) eva_nil)) (eva_cons (evd_tup (eva_cons evd_str (eva_cons evd_str eva_nil))) (eva_cons (evd_lst (eva_cons evd_str (eva_cons evd_str eva_nil))) eva_nil))))))))))))))))) evg_name)
      (evs_seq (evs_asg (evd_op opd_add evd_var (evd_lst (eva_cons (evd_tup (eva_cons (evd_tup (eva_cons evd_str eva_nil)) (eva_cons evd_str eva_nil))) (eva_cons (evd_lst (eva_cons (evd_tup (eva_cons evd_str eva_nil)) (eva_cons evd_str eva_nil))) (eva_cons (evd_tup (eva_cons evd_str (eva_cons evd_str (eva_cons evd_str eva_nil)))) (eva_cons (evd_tup (eva_cons (evd_tup (eva_cons evd_str eva_nil)) (eva_cons evd_str eva_nil))) (eva_cons (evd_tup (eva_cons (evd_op opd_mulG' evd_str evd_int) eva_nil)) (eva_cons (evd_op opd_pow evd_int evd_int) (eva_cons (evd_tup (eva_cons evd_int (eva_cons evd_int eva_nil))) eva_nil))))))))) evg_name)
      (evs_seq (evs_asg (evd_op opd_add evd_var (evd_lst (eva_cons (evd_op opd_mulG' (evd_tup (eva_cons evd_str eva_nil)) evd_int) (eva_cons (evd_op opd_add (evd_op opd_mulG' (evd_tup (eva_cons evd_str eva_nil)) evd_int) (evd_tup (eva_cons evd_str eva_nil))) eva_nil)))) evg_name)
      (evs_ret (evd_op opd_ix evd_var (evd_call (fun _ _ => .nil) (eva_cons evd_var (eva_cons evd_int eva_nil))))))))) (fun ds Qd hl q => q)

theorem ok_is_holder (T : Txt K mg) (G_is_name : FnG P w K mg base CX0 2 T.f_is_name T.d_is_name ["thing"] (spM K 1 m_is_name)) (G_is_word : FnG P w K mg base CX0 1 T.f_is_word T.d_is_word ["thing"] (spM K 1 m_is_word)) : FnG P w K mg base CX0 3 T.f_is_holder T.d_is_holder ["thing"] (spM K 1 m_is_holder) := by
  refine fnG_of (k := 2) T.F_is_holder sc_is_holder (fun vs H Q E h => spM_len h) (fun cdv A outer s H vs Q E hr hq h => ?_)
  refine ⟨_, PSs.nox
    (pss_one (ps_ret (pe_and (pe_callB (isiK (K := K) rfl) (by rfl) T.z_isinstance bt_isinstance (pa_cons (pv 0) (pa_cons (pe_bltn (v := .ty "tuple") (by rfl) T.z_tuple bt_tuple rfl) pa_nil))) (pe_and (pe_cmpR (eqGK (K := K) rfl hr.units) (pe_callB (lenK (K := K) rfl) (by rfl) T.z_len bt_len (pa_cons (pv 0) pa_nil)) pe_int (nomark _)) (pe_and (peG G_is_name (hr.mono (by decide)) hq rfl T.g_is_name T.F_is_name.kp T.b_is_name .nil pass0 (pa_cons (pe_ix (ixK (K := K) rfl) (pv 0) pe_int (fun _ _ => rfl)) pa_nil)) (pe_one (peG G_is_word (hr.mono (by decide)) hq rfl T.g_is_word T.F_is_word.kp T.b_is_word .nil pass0 (pa_cons (pe_ix (ixK (K := K) rfl) (pv 0) pe_int (fun _ _ => rfl)) pa_nil)))))))), ?_⟩
  exact body_of h (fun b =>
    (evs_ret (evd_andV (evd_cb calld_isi (eva_cons evd_var (eva_cons evd_ty eva_nil))) (evd_andV (evd_op opd_eqG (evd_cb calld_len (eva_cons evd_var eva_nil)) evd_int) (evd_andV (evd_call (fun _ _ => .nil) (eva_cons (evd_op opd_ix evd_var evd_int) eva_nil)) (evd_call (fun _ _ => .nil) (eva_cons (evd_op opd_ix evd_var evd_int) eva_nil))))))) (fun ds Qd hl q => q)

theorem ok__law_any_name (T : Txt K mg) (G__law_take : FnG P w K mg base CX0 1 T.f__law_take T.d__law_take ["_law_bag_here", "_law_many"] (spM K 2 takeM)) (G__law_text : FnG P w K mg base CX0 2 T.f__law_text T.d__law_text ["_law_bag_here"] (spM K 1 m__law_text)) : FnG P w K mg base CX0 3 T.f__law_any_name T.d__law_any_name ["_law_bag_here"] (spM K 1 m__law_any_name) := by
  refine fnG_of (k := 2) T.F__law_any_name sc__law_any_name (fun vs H Q E h => spM_len h) (fun cdv A outer s H vs Q E hr hq h => ?_)
  refine ⟨_, PSs.nox
    (pss_cons (ps_asg (pe_tup (pa_cons (pe_ix (ixK (K := K) rfl) (pe_lst (pa_cons (peG G__law_take (hr.mono (by decide)) hq rfl T.g__law_take T.F__law_take.kp T.b__law_take .nil pass0 (pa_cons (pv 0) (pa_cons pe_int pa_nil))) (pa_cons (peG G__law_take (hr.mono (by decide)) hq rfl T.g__law_take T.F__law_take.kp T.b__law_take .nil pass0 (pa_cons (pv 0) (pa_cons pe_int pa_nil))) pa_nil))) (peG G__law_take (hr.mono (by decide)) hq rfl T.g__law_take T.F__law_take.kp T.b__law_take .nil pass0 (pa_cons (pv 0) (pa_cons pe_int pa_nil))) (fun _ _ => rfl)) (pa_cons (peG G__law_take (hr.mono (by decide)) hq rfl T.g__law_take T.F__law_take.kp T.b__law_take .nil pass0 (pa_cons (pv 0) (pa_cons pe_int pa_nil))) pa_nil))) (pg_tupK (K := K) rfl rfl (pgs_cons (pg_name (i := 1) sc__law_any_name.nd rfl (by first | exact Or.inl rfl | exact Or.inr rfl)) (pgs_cons (pg_name (i := 2) sc__law_any_name.nd rfl (by first | exact Or.inl rfl | exact Or.inr rfl)) pgs_nil))))
      (pss_one (ps_ret (pe_callTy (tupK (K := K) rfl) (by rfl) T.z_tuple bt_tuple (pa_cons (pe_lc (own := [("_law_k", 3)]) rfl sc__law_any_name.nd (pi_range1 (by rfl) T.z_range (pa_cons (pv 1) pa_nil)) (blkOk_by (N := N__law_any_name) (sc := defScope s__law_any_name) (by decide +kernel)) (fun _ _ _ _ _ => (pg_name (i := 3) sc__law_any_name.nd rfl (by first | exact Or.inl rfl | exact Or.inr rfl))) (fun _ _ _ _ _ => pts_nil) (fun _ _ _ _ _ => (pe_ix (ixK (K := K) rfl) (pe_lst (pa_cons (peG G__law_text (hr.mono (by decide)) hq rfl T.g__law_text T.F__law_text.kp T.b__law_text .nil pass0 (pa_cons (pv 0) pa_nil)) (pa_cons (pe_ix (ixK (K := K) rfl) (pe_lst (pa_cons pe_str (pa_cons pe_str (pa_cons pe_str pa_nil)))) (peG G__law_take (hr.mono (by decide)) hq rfl T.g__law_take T.F__law_take.kp T.b__law_take .nil pass0 (pa_cons (pv 0) (pa_cons pe_int pa_nil))) (fun _ _ => rfl)) pa_nil))) (pv 2) (fun _ _ => rfl)))) pa_nil))))), ?_⟩
  exact body_of h (fun b =>
    (evs_seq (evs_asg (evd_tup (eva_cons (evd_op opd_ix (evd_lst (eva_cons (evd_call (fun _ _ => .nil) (eva_cons evd_var (eva_cons evd_int eva_nil))) (eva_cons (evd_call (fun _ _ => .nil) (eva_cons evd_var (eva_cons evd_int eva_nil))) eva_nil))) (evd_call (fun _ _ => .nil) (eva_cons evd_var (eva_cons evd_int eva_nil)))) (eva_cons (evd_call (fun _ _ => .nil) (eva_cons evd_var (eva_cons evd_int eva_nil))) eva_nil))) (evg_tup (evgs_cons evg_name (evgs_cons evg_name evgs_nil))))
      (evs_ret (evd_cb calld_tup (eva_cons (evd_lc (evi_rng1 (eva_cons evd_var eva_nil)) evg_name (by decide) evt_yes (evd_op opd_ix (evd_lst (eva_cons (evd_call (fun _ _ => .nil) (eva_cons evd_var eva_nil)) (eva_cons (evd_op opd_ix (evd_lst (eva_cons evd_str (eva_cons evd_str (eva_cons evd_str eva_nil)))) (evd_call (fun _ _ => .nil) (eva_cons evd_var (eva_cons evd_int eva_nil)))) eva_nil))) evd_var)) eva_nil))))) (fun ds Qd hl q => q)

theorem ok__law_bent (T : Txt K mg) (G__law_take : FnG P w K mg base CX0 1 T.f__law_take T.d__law_take ["_law_bag_here", "_law_many"] (spM K 2 takeM)) (G__law_odd : FnG P w K mg base CX0 2 T.f__law_odd T.d__law_odd ["_law_bag_here"] (spM K 1 m__law_odd)) : FnG P w K mg base CX0 3 T.f__law_bent T.d__law_bent ["_law_bag_here", "_law_thing_here"] (spM K 2 m__law_bent) := by
  refine fnG_of (k := 2) T.F__law_bent sc__law_bent (fun vs H Q E h => spM_len h) (fun cdv A outer s H vs Q E hr hq h => ?_)
  refine ⟨_, PSs.nox
    (pss_cons (ps_par (i := 2) (j := 3) rfl sc__law_bent.nd rfl rfl (by decide) rfl rfl (pa_cons (peG G__law_take (hr.mono (by decide)) hq rfl T.g__law_take T.F__law_take.kp T.b__law_take .nil pass0 (pa_cons (pv 0) (pa_cons (pe_op (addK (K := K) rfl) (pe_callB (lenK (K := K) rfl) (by rfl) T.z_len bt_len (pa_cons (pv 1) pa_nil)) pe_int) pa_nil))) (pa_cons (peG G__law_take (hr.mono (by decide)) hq rfl T.g__law_take T.F__law_take.kp T.b__law_take .nil pass0 (pa_cons (pv 0) (pa_cons pe_int pa_nil))) pa_nil)) (by rfl))
      (pss_cons (ps_if (pt_cmpR (eqGK (K := K) rfl hr.units) (pv 3) pe_int (nomark _)) (pss_one (ps_ret (pe_callTy (lstK (K := K) rfl) (by rfl) T.z_list bt_list (pa_cons (pv 1) pa_nil)))) pss_nil)
      (pss_one (ps_ret (pe_op (addK (K := K) rfl) (pe_op (addK (K := K) rfl) (pe_slice (slK (K := K) rfl) (pv 1) po_none (po_some (pv 2))) (pe_op (mulGK (K := K) rfl) (pe_tup (pa_cons (peG G__law_odd (hr.mono (by decide)) hq rfl T.g__law_odd T.F__law_odd.kp T.b__law_odd .nil pass0 (pa_cons (pv 0) pa_nil)) pa_nil)) (pe_callTy call_int1' (by rfl) T.z_int bt_int (pa_cons (pe_cmpR op_gt (pv 3) pe_int (nomark _)) pa_nil)))) (pe_slice (slK (K := K) rfl) (pv 1) (po_some (pe_op (addK (K := K) rfl) (pv 2) (pe_callTy call_int1' (by rfl) T.z_int bt_int (pa_cons (pe_cmpR op_lt (pv 3) pe_int (nomark _)) pa_nil)))) po_none)))))), ?_⟩
  exact body_of h (fun b =>
    (evs_seq (evs_par (eva_cons (evd_call (fun _ _ => .nil) (eva_cons evd_var (eva_cons (evd_op opd_add (evd_cb calld_len (eva_cons evd_var eva_nil)) evd_int) eva_nil))) (eva_cons (evd_call (fun _ _ => .nil) (eva_cons evd_var (eva_cons evd_int eva_nil))) eva_nil)))
      (evs_seq (evs_if (evt_test (evd_op opd_eqG evd_var evd_int)) (evs_ret (evd_cb calld_lst (eva_cons evd_var eva_nil))) evs_next)
      (evs_ret (evd_op opd_add (evd_op opd_add (evd_sl sld_U evd_var evo_none (evo_some evd_var)) (evd_op opd_mulG' (evd_tup (eva_cons (evd_call (fun _ _ => .nil) (eva_cons evd_var eva_nil)) eva_nil)) (evd_cb calld_int (eva_cons (evd_op opd_gt evd_var evd_int) eva_nil)))) (evd_sl sld_U evd_var (evo_some (evd_op opd_add evd_var (evd_cb calld_int (eva_cons (evd_op opd_lt evd_var evd_int) eva_nil)))) evo_none)))))) (fun ds Qd hl q => q)

theorem ok__law_due (T : Txt K mg) (G__law_is_couple : FnG P w K mg base CX0 1 T.f__law_is_couple T.d__law_is_couple ["_law_thing_here"] (spM K 1 m__law_is_couple)) (G__law_is_name : FnG P w K mg base CX0 2 T.f__law_is_name T.d__law_is_name ["_law_thing_here"] (spM K 1 m__law_is_name)) (G__law_is_word : FnG P w K mg base CX0 1 T.f__law_is_word T.d__law_is_word ["_law_thing_here"] (spM K 1 m__law_is_word)) (G__law_within : FnG P w K mg base CX0 1 T.f__law_within T.d__law_within ["_law_thing_here", "_law_low", "_law_high"] (spM K 3 m__law_within)) : FnG P w K mg base CX0 3 T.f__law_due T.d__law_due ["_law_thing_here"] (spM K 1 m__law_due) := by
  refine fnG_of (k := 2) T.F__law_due sc__law_due (fun vs H Q E h => spM_len h) (fun cdv A outer s H vs Q E hr hq h => ?_)
  refine ⟨_, PSs.nox
    (pss_cons (ps_set (i := 1) sc__law_due.nd rfl (by first | exact Or.inl rfl | exact Or.inr rfl) (pe_and (peG G__law_is_couple (hr.mono (by decide)) hq rfl T.g__law_is_couple T.F__law_is_couple.kp T.b__law_is_couple .nil pass0 (pa_cons (pv 0) pa_nil)) (pe_and (peG G__law_is_name (hr.mono (by decide)) hq rfl T.g__law_is_name T.F__law_is_name.kp T.b__law_is_name .nil pass0 (pa_cons (pe_ix (ixK (K := K) rfl) (pv 0) pe_int (fun _ _ => rfl)) pa_nil)) (pe_one (peG G__law_is_word (hr.mono (by decide)) hq rfl T.g__law_is_word T.F__law_is_word.kp T.b__law_is_word .nil pass0 (pa_cons (pe_ix (ixK (K := K) rfl) (pv 0) pe_int (fun _ _ => rfl)) pa_nil))))))
      (pss_cons (ps_set (i := 2) sc__law_due.nd rfl (by first | exact Or.inl rfl | exact Or.inr rfl) (pe_and (peG G__law_is_couple (hr.mono (by decide)) hq rfl T.g__law_is_couple T.F__law_is_couple.kp T.b__law_is_couple .nil pass0 (pa_cons (pv 0) pa_nil)) (pe_and (peG G__law_is_word (hr.mono (by decide)) hq rfl T.g__law_is_word T.F__law_is_word.kp T.b__law_is_word .nil pass0 (pa_cons (pe_ix (ixK (K := K) rfl) (pv 0) pe_int (fun _ _ => rfl)) pa_nil)) (pe_one (peG G__law_is_word (hr.mono (by decide)) hq rfl T.g__law_is_word T.F__law_is_word.kp T.b__law_is_word .nil pass0 (pa_cons (pe_ix (ixK (K := K) rfl) (pv 0) pe_int (fun _ _ => rfl)) pa_nil))))))
      (pss_cons (ps_set (i := 3) sc__law_due.nd rfl (by first | exact Or.inl rfl | exact Or.inr rfl) (pe_lst (pa_cons (peG G__law_within (hr.mono (by decide)) hq rfl T.g__law_within T.F__law_within.kp T.b__law_within .nil pass0 (pa_cons (pv 0) (pa_cons (pe_un un_neg (pe_op op_pow pe_int pe_int)) (pa_cons (pe_op op_pow pe_int pe_int) pa_nil)))) (pa_cons (peG G__law_is_word (hr.mono (by decide)) hq rfl T.g__law_is_word T.F__law_is_word.kp T.b__law_is_word .nil pass0 (pa_cons (pv 0) pa_nil)) (pa_cons (peG G__law_is_name (hr.mono (by decide)) hq rfl T.g__law_is_name T.F__law_is_name.kp T.b__law_is_name .nil pass0 (pa_cons (pv 0) pa_nil)) (pa_cons (pv 1) pa_nil))))))
      (pss_one (ps_ret (pe_op (addK (K := K) rfl) (pv 3) (pe_lst (pa_cons (peG G__law_within (hr.mono (by decide)) hq rfl T.g__law_within T.F__law_within.kp T.b__law_within .nil pass0 (pa_cons (pv 0) (pa_cons pe_int (pa_cons (pe_op op_pow pe_int pe_int) pa_nil)))) (pa_cons (pe_or (pe_cmpR op_isU (pv 0) pe_non (nomark _)) (pe_one (peG G__law_within (hr.mono (by decide)) hq rfl T.g__law_within T.F__law_within.kp T.b__law_within .nil pass0 (pa_cons (pv 0) (pa_cons pe_int (pa_cons pe_int pa_nil)))))) (pa_cons (pv 2) pa_nil)))))))))), ?_⟩
  exact body_of h (fun b =>
    (evs_seq (evs_asg (evd_andV (evd_call (fun _ _ => .nil) (eva_cons evd_var eva_nil)) (evd_andV (evd_call (fun _ _ => .nil) (eva_cons (evd_op opd_ix evd_var evd_int) eva_nil)) (evd_call (fun _ _ => .nil) (eva_cons (evd_op opd_ix evd_var evd_int) eva_nil)))) evg_name)
      (evs_seq (evs_asg (evd_andV (evd_call (fun _ _ => .nil) (eva_cons evd_var eva_nil)) (evd_andV (evd_call (fun _ _ => .nil) (eva_cons (evd_op opd_ix evd_var evd_int) eva_nil)) (evd_call (fun _ _ => .nil) (eva_cons (evd_op opd_ix evd_var evd_int) eva_nil)))) evg_name)
      (evs_seq (evs_asg (evd_lst (eva_cons (evd_call (fun _ _ => .nil) (eva_cons evd_var (eva_cons (evd_un und_neg (evd_op opd_pow evd_int evd_int)) (eva_cons (evd_op opd_pow evd_int evd_int) eva_nil)))) (eva_cons (evd_call (fun _ _ => .nil) (eva_cons evd_var eva_nil)) (eva_cons (evd_call (fun _ _ => .nil) (eva_cons evd_var eva_nil)) (eva_cons evd_var eva_nil))))) evg_name)
      (evs_ret (evd_op opd_add evd_var (evd_lst (eva_cons (evd_call (fun _ _ => .nil) (eva_cons evd_var (eva_cons evd_int (eva_cons (evd_op opd_pow evd_int evd_int) eva_nil)))) (eva_cons (evd_orV (evd_op opd_is evd_var evd_non) (evd_call (fun _ _ => .nil) (eva_cons evd_var (eva_cons evd_int (eva_cons evd_int eva_nil))))) (eva_cons evd_var eva_nil)))))))))) (fun ds Qd hl q => q)

theorem ok__law_thing (T : Txt K mg) (G__law_take : FnG P w K mg base CX0 1 T.f__law_take T.d__law_take ["_law_bag_here", "_law_many"] (spM K 2 takeM)) (G__law_odd : FnG P w K mg base CX0 2 T.f__law_odd T.d__law_odd ["_law_bag_here"] (spM K 1 m__law_odd)) (G__law_bent : FnG P w K mg base CX0 3 T.f__law_bent T.d__law_bent ["_law_bag_here", "_law_thing_here"] (spM K 2 m__law_bent)) (G__law_any_name : FnG P w K mg base CX0 3 T.f__law_any_name T.d__law_any_name ["_law_bag_here"] (spM K 1 m__law_any_name)) (G__law_number : FnG P w K mg base CX0 2 T.f__law_number T.d__law_number ["_law_bag_here"] (spM K 1 m__law_number)) (G__law_text : FnG P w K mg base CX0 2 T.f__law_text T.d__law_text ["_law_bag_here"] (spM K 1 m__law_text)) : FnG P w K mg base CX0 4 T.f__law_thing T.d__law_thing ["_law_bag_here"] (spM K 1 m__law_thing) := by
  refine fnG_of (k := 3) T.F__law_thing sc__law_thing (fun vs H Q E h => spM_len h) (fun cdv A outer s H vs Q E hr hq h => ?_)
  refine ⟨_, PSs.nox
    (pss_cons (ps_set (i := 1) sc__law_thing.nd rfl (by first | exact Or.inl rfl | exact Or.inr rfl) (peG G__law_take (hr.mono (by decide)) hq rfl T.g__law_take T.F__law_take.kp T.b__law_take .nil pass0 (pa_cons (pv 0) (pa_cons pe_int pa_nil))))
      (pss_cons (ps_if (pt_cmpR op_lt (pv 1) pe_int (nomark _)) (pss_one (ps_ret (pe_ix (ixK (K := K) rfl) (pe_lst (pa_cons (peG G__law_number (hr.mono (by decide)) hq rfl T.g__law_number T.F__law_number.kp T.b__law_number .nil pass0 (pa_cons (pv 0) pa_nil)) (pa_cons (peG G__law_text (hr.mono (by decide)) hq rfl T.g__law_text T.F__law_text.kp T.b__law_text .nil pass0 (pa_cons (pv 0) pa_nil)) pa_nil))) (pv 1) (fun _ _ => rfl)))) pss_nil)
      (pss_cons (ps_if (pt_cmpR (eqGK (K := K) rfl hr.units) (pv 1) pe_int (nomark _)) (pss_one (ps_ret (peG G__law_odd (hr.mono (by decide)) hq rfl T.g__law_odd T.F__law_odd.kp T.b__law_odd .nil pass0 (pa_cons (pv 0) pa_nil)))) pss_nil)
      (pss_cons (ps_set (i := 2) sc__law_thing.nd rfl (by first | exact Or.inl rfl | exact Or.inr rfl) (pe_ix (ixK (K := K) rfl) (pe_lst (pa_cons (peG G__law_any_name (hr.mono (by decide)) hq rfl T.g__law_any_name T.F__law_any_name.kp T.b__law_any_name .nil pass0 (pa_cons (pv 0) pa_nil)) (pa_cons (pe_tup (pa_cons (peG G__law_any_name (hr.mono (by decide)) hq rfl T.g__law_any_name T.F__law_any_name.kp T.b__law_any_name .nil pass0 (pa_cons (pv 0) pa_nil)) (pa_cons (peG G__law_text (hr.mono (by decide)) hq rfl T.g__law_text T.F__law_text.kp T.b__law_text .nil pass0 (pa_cons (pv 0) pa_nil)) pa_nil))) (pa_cons (pe_tup (pa_cons (peG G__law_text (hr.mono (by decide)) hq rfl T.g__law_text T.F__law_text.kp T.b__law_text .nil pass0 (pa_cons (pv 0) pa_nil)) (pa_cons (peG G__law_text (hr.mono (by decide)) hq rfl T.g__law_text T.F__law_text.kp T.b__law_text .nil pass0 (pa_cons (pv 0) pa_nil)) pa_nil))) pa_nil)))) (pe_op op_sub (pv 1) pe_int) (fun _ _ => rfl)))
      (pss_one (ps_ret (pe_ifExp (pt_cmpR (eqGK (K := K) rfl hr.units) (peG G__law_take (hr.mono (by decide)) hq rfl T.g__law_take T.F__law_take.kp T.b__law_take .nil pass0 (pa_cons (pv 0) (pa_cons pe_int pa_nil))) pe_int (nomark _)) (peG G__law_bent (hr.mono (by decide)) hq rfl T.g__law_bent T.F__law_bent.kp T.b__law_bent .nil pass0 (pa_cons (pv 0) (pa_cons (pv 2) pa_nil))) (pv 2)))))))), ?_⟩
  exact body_of h (fun b =>
    (evs_seq (evs_asg (evd_call (fun _ _ => .nil) (eva_cons evd_var (eva_cons evd_int eva_nil))) evg_name)
      (evs_seq (evs_if (evt_test (evd_op opd_lt evd_var evd_int)) (evs_ret (evd_op opd_ix (evd_lst (eva_cons (evd_call (fun _ _ => .nil) (eva_cons evd_var eva_nil)) (eva_cons (evd_call (fun _ _ => .nil) (eva_cons evd_var eva_nil)) eva_nil))) evd_var)) evs_next)
      (evs_seq (evs_if (evt_test (evd_op opd_eqG evd_var evd_int)) (evs_ret (evd_call (fun _ _ => .nil) (eva_cons evd_var eva_nil))) evs_next)
      (evs_seq (evs_asg (evd_op opd_ix (evd_lst (eva_cons (evd_call (fun _ _ => .nil) (eva_cons evd_var eva_nil)) (eva_cons (evd_tup (eva_cons (evd_call (fun _ _ => .nil) (eva_cons evd_var eva_nil)) (eva_cons (evd_call (fun _ _ => .nil) (eva_cons evd_var eva_nil)) eva_nil))) (eva_cons (evd_tup (eva_cons (evd_call (fun _ _ => .nil) (eva_cons evd_var eva_nil)) (eva_cons (evd_call (fun _ _ => .nil) (eva_cons evd_var eva_nil)) eva_nil))) eva_nil)))) (evd_op opd_sub evd_var evd_int)) evg_name)
      (evs_ret (evd_if (evt_test (evd_op opd_eqG (evd_call (fun _ _ => .nil) (eva_cons evd_var (eva_cons evd_int eva_nil))) evd_int)) (evd_call (fun _ _ => .nil) (eva_cons evd_var (eva_cons evd_var eva_nil))) evd_var))))))) (fun ds Qd hl q => q)

theorem ok__law_asked (T : Txt K mg) (G_is_integer : FnG P w K mg base CX0 1 T.f_is_integer T.d_is_integer ["thing"] (spM K 1 m_is_integer)) (G_is_word : FnG P w K mg base CX0 1 T.f_is_word T.d_is_word ["thing"] (spM K 1 m_is_word)) (G_is_name : FnG P w K mg base CX0 2 T.f_is_name T.d_is_name ["thing"] (spM K 1 m_is_name)) (G_is_holder : FnG P w K mg base CX0 3 T.f_is_holder T.d_is_holder ["thing"] (spM K 1 m_is_holder)) (G_is_day : FnG P w K mg base CX0 2 T.f_is_day T.d_is_day ["thing"] (spM K 1 m_is_day)) (G_is_count : FnG P w K mg base CX0 2 T.f_is_count T.d_is_count ["thing"] (spM K 1 m_is_count)) (G_is_pair : FnG P w K mg base CX0 2 T.f_is_pair T.d_is_pair ["thing"] (spM K 1 m_is_pair)) : FnG P w K mg base CX0 4 T.f__law_asked T.d__law_asked ["_law_thing_here"] (spM K 1 m__law_asked) := by
  refine fnG_of (k := 3) T.F__law_asked sc__law_asked (fun vs H Q E h => spM_len h) (fun cdv A outer s H vs Q E hr hq h => ?_)
  refine ⟨_, PSs.nox
    (pss_cons (ps_set (i := 1) sc__law_asked.nd rfl (by first | exact Or.inl rfl | exact Or.inr rfl) (pe_lst (pa_cons (peG G_is_integer (hr.mono (by decide)) hq rfl T.g_is_integer T.F_is_integer.kp T.b_is_integer .nil pass0 (pa_cons (pv 0) pa_nil)) (pa_cons (peG G_is_word (hr.mono (by decide)) hq rfl T.g_is_word T.F_is_word.kp T.b_is_word .nil pass0 (pa_cons (pv 0) pa_nil)) (pa_cons (peG G_is_name (hr.mono (by decide)) hq rfl T.g_is_name T.F_is_name.kp T.b_is_name .nil pass0 (pa_cons (pv 0) pa_nil)) (pa_cons (peG G_is_holder (hr.mono (by decide)) hq rfl T.g_is_holder T.F_is_holder.kp T.b_is_holder .nil pass0 (pa_cons (pv 0) pa_nil)) pa_nil))))))
      (pss_one (ps_ret (pe_op (addK (K := K) rfl) (pv 1) (pe_lst (pa_cons (peG G_is_day (hr.mono (by decide)) hq rfl T.g_is_day T.F_is_day.kp T.b_is_day .nil pass0 (pa_cons (pv 0) pa_nil)) (pa_cons (peG G_is_count (hr.mono (by decide)) hq rfl T.g_is_count T.F_is_count.kp T.b_is_count .nil pass0 (pa_cons (pv 0) pa_nil)) (pa_cons (peG G_is_pair (hr.mono (by decide)) hq rfl T.g_is_pair T.F_is_pair.kp T.b_is_pair .nil pass0 (pa_cons (pv 0) pa_nil)) pa_nil)))))))), ?_⟩
  exact body_of h (fun b =>
    (evs_seq (evs_asg (evd_lst (eva_cons (evd_call (fun _ _ => .nil) (eva_cons evd_var eva_nil)) (eva_cons (evd_call (fun _ _ => .nil) (eva_cons evd_var eva_nil)) (eva_cons (evd_call (fun _ _ => .nil) (eva_cons evd_var eva_nil)) (eva_cons (evd_call (fun _ _ => .nil) (eva_cons evd_var eva_nil)) eva_nil))))) evg_name)
      (evs_ret (evd_op opd_add evd_var (evd_lst (eva_cons (evd_call (fun _ _ => .nil) (eva_cons evd_var eva_nil)) (eva_cons (evd_call (fun _ _ => .nil) (eva_cons evd_var eva_nil)) (eva_cons (evd_call (fun _ _ => .nil) (eva_cons evd_var eva_nil)) eva_nil)))))))) (fun ds Qd hl q => q)

end
section
variable {P : Program} {w : World} {K : PySem.W.Frag} {mg : Str → Option Value} {base : Heap}
theorem ok__law_bag (T : Txt K mg) : FnG P w K mg base CX0 1 T.f__law_bag T.d__law_bag ["_law_script"] (spBag K) := by
  refine fnG_of (k := 0) T.F__law_bag sc__law_bag (fun vs H Q E h => spBag_len h) (fun cdv A outer s H vs Q E hr hq h => ⟨_, PSs.nox
    (pss_one (ps_ret (pe_lst (pa_cons pe_int (pa_cons pe_int (pa_cons pe_int (pa_cons (pe_lc (own := [("_law_cell", 1)]) (g := gName 1) (tt := tYes) rfl sc__law_bag.nd (pi_list (pe_slice sl_list (pv 0) po_none (po_some pe_int)))
      (blkOk_by (N := N__law_bag) (sc := defScope s__law_bag) (by decide +kernel)) (fun _ _ _ _ _ => pg_name (i := 1) sc__law_bag.nd rfl (Or.inl rfl)) (fun _ _ _ _ _ => pts_nil)
      (fun _ _ _ _ _ => pe_callB call_abs (by rfl) T.z_abs bt_abs (pa_cons (pv 1) pa_nil))) pa_nil))))))), ?_⟩)
  obtain ⟨a, ns, rfl, hS, hlen, q⟩ := h
  refine ⟨.ref a, rfl, 63, rfl, a, _, rfl, hS, fun p hp => ?_⟩
  obtain ⟨ms, ecut, hms⟩ := cut_ints ns none (some 63)
  rw [ecut]
  have hp1 : upd H p (.lst (ms.map V.int)) p = some (.lst (ms.map V.int)) := upd_same
  refine ⟨p, rfl, ⟨_, .of hp1⟩, fun Dl hD => ?_⟩
  have npD : p ≠ Dl := fun e => by rw [← e, upd_same] at hD; cases hD
  refine lc_list (K := K) (a := p) (xs := ms.map V.int) (fun i H' => H' Dl = some (.lst ((ms.take i).map fun x => V.int (absI x))) ∧ H' p = some (.lst (ms.map V.int)) ∧ ∀ x o, H x = some o → H' x = some o) ?_ ?_ ?_ ?_
  · refine ⟨upd_same, by rw [upd_ne npD]; exact hp1, fun x o e => ?_⟩
    have n1 : x ≠ p := ne_of_none e hp
    have e1 : upd H p (.lst (ms.map V.int)) x = some o := by rw [upd_ne n1]; exact e
    rw [upd_ne (ne_of_none e1 hD)]; exact e1
  · rintro i H' _ ⟨_, h2, _⟩
    exact .of h2
  · rintro i x H' hx ⟨h1, h2, h3⟩
    rw [List.getElem?_map] at hx
    match e : ms[i]?, hx with
    | some v, hx =>
      have ex : V.int v = x := Option.some.inj hx
      subst ex
      have hi := (List.getElem?_eq_some_iff.mp e).1
      refine ⟨rfl, ?_⟩
      refine ⟨_, rfl, v, rfl, (ms.take i).map (fun x => V.int (absI x)), h1, by rw [List.length_map, List.length_take]; exact Nat.lt_of_le_of_lt (by omega : min i ms.length ≤ 100000) (by decide), ?_, ?_, fun y o e => ?_⟩
      · rw [upd_same, List.take_add_one, e, List.map_append]; rfl
      · rw [upd_ne npD]; exact h2
      · rw [upd_ne (fun z => by
          rw [z] at e
          have e1 : upd H p (.lst (ms.map V.int)) Dl = some o := by
            rw [upd_ne (ne_of_none e hp)]; exact e
          rw [e1] at hD; cases hD)]
        exact h3 y o e
  · rintro H' ⟨h1, h2, h3⟩
    rw [List.length_map, List.take_of_length_le (Nat.le_refl _)] at h1
    refine ⟨by show 4 ≤ sizeLine; decide, fun b hb => ?_⟩
    have nDb : Dl ≠ b := ne_of_none h1 hb
    refine q b _ (fun x o _ e => by rw [upd_ne (ne_of_none (h3 x o e) hb)]; exact h3 x o e) ⟨fun x hx => ?_, fun b' e => ?_⟩
    · rw [List.mem_singleton.mp hx, upd_same]; simp
    · have : b = b' := Option.some.inj e
      subst this
      refine ⟨by simp, 0, 1234567891, 0, Dl, ms.map absI, upd_same, by rw [upd_ne nDb, h1, List.map_map]; rfl, fun z => nDb (List.mem_singleton.mp z), by decide, by decide, by decide, fun x hx => ?_⟩
      obtain ⟨y, _, rfl⟩ := List.mem_map.mp hx
      exact absI_nn y
theorem ok__law_take (T : Txt K mg) : FnG P w K mg base CX0 1 T.f__law_take T.d__law_take ["_law_bag_here", "_law_many"] (spM K 2 takeM) := by
  refine fnG_of (k := 0) T.F__law_take sc__law_take (fun vs H Q E h => spM_len h) (fun cdv A outer s H vs Q E hr hq h => ⟨_, PSs.nox
    (C8.pss_cut (ps_if (pt_cmpR op_eq (pe_ix ix_list (pv 0) pe_int (fun _ _ => rfl)) pe_int (nomark _))
        (pss_cons (ps_set (i := 2) sc__law_take.nd rfl (Or.inl rfl) pe_int)
        (C8.pss_cut (ps_if (pt_cmpR op_lt (pe_ix ix_list (pv 0) pe_int (fun _ _ => rfl)) (pe_callB call_len_seq (by rfl) T.z_len PySem.boot_len (pa_cons (pe_ix ix_list (pv 0) pe_int (fun _ _ => rfl)) pa_nil)) (nomark _))
          (pss_one (ps_set (i := 2) sc__law_take.nd rfl (Or.inl rfl) (pe_ix ix_list (pe_ix ix_list (pv 0) pe_int (fun _ _ => rfl)) (pe_ix ix_list (pv 0) pe_int (fun _ _ => rfl)) (fun _ _ => rfl)))) pss_nil)
        (pss_cons (ps_augS (pv 0) pe_int pget_lst pe_int ip_add set_list)
        (C8.pss_cut (ps_if (pt_cmpR op_ge (pv 2) pe_int (nomark _)) (pss_one (ps_asg (pv 2) (pg_sub (pv 0) pe_int set_list))) pss_nil)
        (pss_cons (ps_set (i := 3) sc__law_take.nd rfl (Or.inl rfl) (pe_op op_add (pe_op op_mod (pe_callTy call_int1' (by rfl) T.z_int bt_int (pa_cons (pv 2) pa_nil)) pe_int) (pe_op op_mul pe_int (pe_ix ix_list (pv 0) pe_int (fun _ _ => rfl)))))
        (pss_one (ps_asg (pe_op op_mod (pe_callTy call_int1' (by rfl) T.z_int bt_int (pa_cons (pe_op op_add (pe_op op_mul (pe_ix ix_list (pv 0) pe_int (fun _ _ => rfl)) pe_int) (pv 3)) pa_nil)) pe_int) (pg_sub (pv 0) pe_int set_list)))))))) pss_nil)
    (pss_cons (ps_if (pt_cmpR op_gt (pe_ix ix_list (pv 0) pe_int (fun _ _ => rfl)) pe_int (nomark _))
        (pss_cons (ps_set (i := 4) sc__law_take.nd rfl (Or.inl rfl) (pe_op op_mod (pe_callTy call_int1' (by rfl) T.z_int bt_int (pa_cons (pe_ix ix_list (pv 0) pe_int (fun _ _ => rfl)) pa_nil)) (pv 1)))
        (pss_cons (ps_asg (pe_op op_fdivW (pe_ix ix_list (pv 0) pe_int (fun _ _ => rfl)) (pv 1)) (pg_sub (pv 0) pe_int set_list))
        (pss_one (ps_ret (pv 4))))) pss_nil)
    (pss_cons (ps_set (i := 5) sc__law_take.nd rfl (Or.inl rfl) (pe_op op_mod (pe_callTy call_int1' (by rfl) T.z_int bt_int (pa_cons (pe_op op_mul (pe_op op_add (pe_ix ix_list (pv 0) pe_int (fun _ _ => rfl)) pe_int) pe_int) pa_nil)) pe_int))
    (pss_cons (ps_set (i := 6) sc__law_take.nd rfl (Or.inl rfl) (pe_op op_mod (pe_callTy call_int1' (by rfl) T.z_int bt_int (pa_cons (pe_op op_mul (pe_op op_mod (pe_callTy call_int1' (by rfl) T.z_int bt_int (pa_cons (pe_op op_mul (pv 5) (pv 5)) pa_nil)) pe_int) pe_int) pa_nil)) pe_int))
    (pss_cons (ps_if (pt_cmpR op_gt (pv 1) pe_int (nomark _)) (pss_one (ps_ret (pe_op op_mod (pe_callTy call_int1' (by rfl) T.z_int bt_int (pa_cons (pe_op op_add (pe_op op_mul (pv 6) pe_int) (pv 5)) pa_nil)) (pv 1)))) pss_nil)
    (pss_one (ps_ret (pe_op op_mod (pe_callTy call_int1' (by rfl) T.z_int bt_int (pa_cons (pe_op op_fdivW (pv 6) pe_int) pa_nil)) (pv 1))))))))), ?_⟩)
  obtain ⟨b, c, m, z, t, n, cells, rfl, hm0, hm9, hb, hc, hz, ht, hn, hcells, ncb, k⟩ := spTake_inv h
  refine ⟨fun σ H1 => ∃ z t n y2 y3, σ = [some (.ref b), some (.int m), y2, y3, none, none, none] ∧ 0 ≤ z ∧ 0 ≤ t ∧ 0 ≤ n ∧ H1 b = some (.lst [.int z, .int t, .int n, .ref c]) ∧ ∀ a, a ≠ b → H1 a = H a, ?_, ?_⟩
  · refine ⟨_, rfl, b, _, 0, _, rfl, rfl, .of hb, atI_nat (j := 0) rfl, rfl, _, rfl, ite2 (fun _ => ?_) (fun _ => ⟨z, t, n, none, none, rfl, hz, ht, hn, hb, fun _ _ => rfl⟩)⟩
    -- the cell
    refine ⟨fun σ H1 => ∃ x, σ = [some (.ref b), some (.int m), some (.int x), none, none, none, none] ∧ 0 ≤ x ∧ H1 = H, ?_, ?_⟩
    · refine ⟨_, rfl, b, _, 2, _, rfl, rfl, .of hb, atI_nat (j := 2) rfl, _, rfl, b, _, 3, _, rfl, rfl, .of hb, atI_nat (j := 3) rfl, c, _, rfl, .inl (.of hc), n, _, rfl, rfl, _, rfl, ite2 (fun lt => ?_) (fun _ => ⟨0, rfl, Int.le_refl 0, rfl⟩)⟩
      have lt' : n < ((cells.map V.int).length : Int) := of_decide_eq_true lt
      rw [List.length_map] at lt'
      obtain ⟨j, rfl⟩ : ∃ j : Nat, n = (j : Int) := ⟨n.toNat, by omega⟩
      have hj : j < cells.length := by omega
      have ej : (cells.map V.int)[j]? = some (.int cells[j]) := by rw [List.getElem?_map, List.getElem?_eq_getElem hj]; rfl
      exact ⟨_, rfl, b, _, 3, _, rfl, rfl, .of hb, atI_nat (j := 3) rfl, _, rfl, b, _, 2, _, rfl, rfl, .of hb, atI_nat (j := 2) rfl, c, _, _, _, rfl, rfl, .of hc, atI_nat ej, cells[j], rfl, hcells _ (List.getElem_mem hj), rfl⟩
    · rintro σ H1 ⟨x, rfl, hx, rfl⟩
      refine ⟨_, rfl, b, _, 2, _, rfl, rfl, .of hb, atI_nat (j := 2) rfl, n, 1, rfl, rfl, b, _, 2, 2, rfl, rfl, hb, rfl, ?_⟩
      refine ⟨fun σ H2 => ∃ z2, σ = [some (.ref b), some (.int m), some (.int x), none, none, none, none] ∧ 0 ≤ z2 ∧ H2 b = some (.lst [.int z2, .int t, .int (n + 1), .ref c]) ∧ ∀ a, a ≠ b → H2 a = H1 a, ?_, ?_⟩
      · refine ⟨_, rfl, x, 1000000000000000000, rfl, rfl, _, rfl, ite2 (fun _ => ?_) (fun _ => ⟨z, rfl, hz, upd_same, fun a na => upd_ne na⟩)⟩
        exact ⟨_, rfl, _, rfl, b, _, 0, 0, rfl, rfl, upd_same, rfl, x, rfl, hx, upd_same, fun a na => by rw [upd_ne na, upd_ne na]⟩
      · rintro σ H2 ⟨z2, rfl, hz2, hb2, hne⟩
        refine ⟨_, rfl, .inl ⟨_, rfl, _, _, rfl, rfl, (by show (0 : Int) < 2147483647; decide), _, rfl, b, _, 2, _, rfl, rfl, .of hb2, atI_nat (j := 2) rfl, _, _, rfl, rfl, .inl (by decide), _, _, rfl, rfl, ?_⟩⟩
        have hp1 : 0 ≤ x % 2147483647 := Int.emod_nonneg _ (by decide)
        refine ⟨_, rfl, b, _, 1, _, rfl, rfl, .of hb2, atI_nat (j := 1) rfl, _, _, rfl, rfl, .inr (by decide), _, rfl, _, _, rfl, rfl, .inl ⟨_, rfl, _, _, rfl, rfl, (by show (0 : Int) < 2147483647; decide), _, rfl, b, _, 1, 1, rfl, rfl, hb2, rfl, ?_⟩⟩
        exact ⟨z2, _, n + 1, _, _, rfl, hz2, Int.emod_nonneg _ (by decide), by omega, upd_same, fun a na => by rw [upd_ne na, hne a na]⟩
  · rintro σ H1 ⟨z, t, n, y2, y3, rfl, hz, ht, hn, hb1, hne⟩
    have fin : ∀ r z' t' n' H', 0 ≤ r → r < m → 0 ≤ z' → 0 ≤ t' → 0 ≤ n' → H' b = some (.lst [.int z', .int t', .int n', .ref c]) → (∀ a, a ≠ b → H' a = H1 a) → Q (.int r) H' :=
      fun r z' t' n' H' r0 r1 a1 a2 a3 e1 e2 => k r z' t' n' H' r0 r1 a1 a2 a3 e1 fun a na => by rw [e2 a na, hne a na]
    refine ⟨_, rfl, b, _, 0, _, rfl, rfl, .of hb1, atI_nat (j := 0) rfl, _, _, rfl, rfl, _, rfl, ite2 (fun _ => ?_) (fun _ => ?_)⟩
    · refine ⟨_, rfl, b, _, 0, _, rfl, rfl, .of hb1, atI_nat (j := 0) rfl, .inl ⟨_, rfl, _, rfl, _, _, rfl, rfl, hm0, ?_⟩⟩
      refine ⟨_, rfl, b, _, 0, _, rfl, rfl, .of hb1, atI_nat (j := 0) rfl, _, rfl, _, _, rfl, rfl, ⟨hm0, hm9⟩, _, rfl, b, _, 0, 0, rfl, rfl, hb1, rfl, ?_⟩
      exact ⟨_, rfl, fin _ _ _ _ _ (Int.emod_nonneg _ (by omega)) (Int.emod_lt_of_pos _ hm0) (Int.ediv_nonneg hz (by omega)) ht hn upd_same fun a na => upd_ne na⟩
    · refine ⟨_, rfl, b, _, 1, _, rfl, rfl, .of hb1, atI_nat (j := 1) rfl, _, _, rfl, rfl, _, _, rfl, rfl, .inr (by decide), .inl ⟨_, rfl, _, _, rfl, rfl, (by show (0 : Int) < 1000000007; decide), ?_⟩⟩
      have b5 : ∀ x : Int, 0 ≤ x % 1000000007 ∧ x % 1000000007 < 1000000007 := fun x => ⟨Int.emod_nonneg _ (by decide), Int.emod_lt_of_pos _ (by decide)⟩
      generalize h5 : (t + 1) * 39373 % 1000000007 = bg
      have hbg := b5 ((t + 1) * 39373)
      rw [h5] at hbg
      refine ⟨_, rfl, _, rfl, _, _, rfl, rfl, .inl ⟨by omega, by omega⟩, .inl ⟨_, rfl, _, _, rfl, rfl, (by show (0 : Int) < 998244353; decide), _, _, rfl, rfl, .inr (by decide), .inl ⟨_, rfl, _, _, rfl, rfl, (by show (0 : Int) < 998244353; decide), ?_⟩⟩⟩
      refine ⟨_, rfl, _, _, rfl, rfl, _, rfl, ite2 (fun _ => ?_) (fun _ => ?_)⟩
      · exact ⟨_, rfl, _, _, rfl, rfl, .inr (by decide), _, rfl, _, _, rfl, rfl, .inl ⟨_, rfl, _, rfl, _, _, rfl, rfl, hm0, fin _ _ _ _ _ (Int.emod_nonneg _ (by omega)) (Int.emod_lt_of_pos _ hm0) hz ht hn hb1 fun _ _ => rfl⟩⟩
      · exact ⟨_, rfl, _, _, rfl, rfl, ⟨by decide, by decide⟩, .inl ⟨_, rfl, _, rfl, _, _, rfl, rfl, hm0, fin _ _ _ _ _ (Int.emod_nonneg _ (by omega)) (Int.emod_lt_of_pos _ hm0) hz ht hn hb1 fun _ _ => rfl⟩⟩
end
def m_law : MS := (sSeq (sFor (miRng1 (mCons (mC (.int 30)) mNil)) (gvName 2) (sSeq (sAsg (mFn 1 m__law_thing [] (mCons (mVar 1) mNil)) (gvName 3))
    (sSeq (sPar 4 5 (mCons (mCall reprG (mCons (mVar 3) mNil)) (mCons (mCall reprG (mCons (mFn 1 m__law_due [] (mCons (mVar 3) mNil)) mNil)) mNil)))
    (sFor (miRng1 (mCons (mC (.int 3)) mNil)) (gvName 6) (sIf (mOr (mTest (mBin neF (mCall reprG (mCons (mFn 1 m__law_asked [] (mCons (mVar 3) mNil)) mNil)) (mVar 5))) (mTest (mBin neF (mCall reprG (mCons (mVar 3) mNil)) (mVar 4)))) (sRet (mC (.bl false))) sNext)))))
    (sRet (mC (.bl true))))
def law0 : Rho := .no :: .val .bag :: List.replicate 5 .no
section
variable {P : Program} {w : World} {K : PySem.W.Frag} {mg : Str → Option Value} {base : Heap}
theorem ok_law (T : Txt K mg) (G__law_bag : FnG P w K mg base CX0 1 T.f__law_bag T.d__law_bag ["_law_script"] (spBag K)) (G__law_thing : FnG P w K mg base CX0 4 T.f__law_thing T.d__law_thing ["_law_bag_here"] (spM K 1 m__law_thing)) (G__law_due : FnG P w K mg base CX0 3 T.f__law_due T.d__law_due ["_law_thing_here"] (spM K 1 m__law_due)) (G__law_asked : FnG P w K mg base CX0 4 T.f__law_asked T.d__law_asked ["_law_thing_here"] (spM K 1 m__law_asked)) (hlaw : m_law { nx := fun _ => False, rt := fun d => d = .bl true } law0) : FnG P w K mg base CX0 5 T.f_law T.d_law ["_law_script"] (spLaw K) := by
  refine fnG_of (k := 4) T.F_law sc_law (fun vs H Q E h => spLaw_len h) (fun cdv A outer s H vs Q E hr hq h => ?_)
  refine ⟨_, PSs.nox
    (pss_cons (ps_set (i := 1) sc_law.nd rfl (by first | exact Or.inl rfl | exact Or.inr rfl) (peG G__law_bag (hr.mono (by decide)) hq rfl T.g__law_bag T.F__law_bag.kp T.b__law_bag .nil pass0 (pa_cons (pv 0) pa_nil)))
      (pss_cons (ps_for PassesOwn.never rfl (pi_range1 (by rfl) T.z_range (pa_cons pe_int pa_nil)) (pg_name (i := 2) sc_law.nd rfl (by first | exact Or.inl rfl | exact Or.inr rfl)) (pss_cons (ps_set (i := 3) sc_law.nd rfl (by first | exact Or.inl rfl | exact Or.inr rfl) (peG G__law_thing (hr.mono (by decide)) hq rfl T.g__law_thing T.F__law_thing.kp T.b__law_thing .nil pass0 (pa_cons (pv 1) pa_nil)))
      (pss_cons (ps_par (i := 4) (j := 5) rfl sc_law.nd rfl rfl (by decide) rfl rfl (pa_cons (pe_callB (reprK2 (K := K) rfl hq hr) (by rfl) T.z_repr bt_repr (pa_cons (pv 3) pa_nil)) (pa_cons (pe_callB (reprK2 (K := K) rfl hq hr) (by rfl) T.z_repr bt_repr (pa_cons (peG G__law_due (hr.mono (by decide)) hq rfl T.g__law_due T.F__law_due.kp T.b__law_due .nil pass0 (pa_cons (pv 3) pa_nil)) pa_nil)) pa_nil)) (by rfl))
      (pss_one (ps_for PassesOwn.never rfl (pi_range1 (by rfl) T.z_range (pa_cons pe_int pa_nil)) (pg_name (i := 6) sc_law.nd rfl (by first | exact Or.inl rfl | exact Or.inr rfl)) (pss_one (ps_if (PW.pt (pw_or (pt_cmpR (neK (K := K) rfl hr.units) (pe_callB (reprK2 (K := K) rfl hq hr) (by rfl) T.z_repr bt_repr (pa_cons (peG G__law_asked (hr.mono (by decide)) hq rfl T.g__law_asked T.F__law_asked.kp T.b__law_asked .nil pass0 (pa_cons (pv 3) pa_nil)) pa_nil)) (pv 5) (nomark _)) (pw_or1 (pt_cmpR (neK (K := K) rfl hr.units) (pe_callB (reprK2 (K := K) rfl hq hr) (by rfl) T.z_repr bt_repr (pa_cons (pv 3) pa_nil)) (pv 4) (nomark _))))) (pss_one (ps_ret pe_bl)) pss_nil)))))))
      (pss_one (ps_ret pe_bl)))), ?_⟩
  exact law_body h (fun b =>
    (evs_seq (evs_for (evi_rng1 (eva_cons evd_int eva_nil)) evg_name (evs_seq (evs_asg (evd_call (fun _ _ => .nil) (eva_cons evd_var eva_nil)) evg_name)
      (evs_seq (evs_par (eva_cons (evd_cb calld_repr2 (eva_cons evd_var eva_nil)) (eva_cons (evd_cb calld_repr2 (eva_cons (evd_call (fun _ _ => .nil) (eva_cons evd_var eva_nil)) eva_nil)) eva_nil)))
      (evs_for (evi_rng1 (eva_cons evd_int eva_nil)) evg_name (evs_if (evt_or (evt_test (evd_op opd_ne (evd_cb calld_repr2 (eva_cons (evd_call (fun _ _ => .nil) (eva_cons evd_var eva_nil)) eva_nil)) evd_var)) (evt_test (evd_op opd_ne (evd_cb calld_repr2 (eva_cons evd_var eva_nil)) evd_var))) (evs_ret evd_bl) evs_next)))))
      (evs_ret evd_bl))) hlaw
end

end K11

namespace K11
open PySem PySem.Spec PyProof.Rows L2 Dz
theorem eqG_int (i j : Int) (Q : D → Prop) : eqG (.int i) (.int j) Q = Q (.bl (i == j)) := by
  show eqF (.int i) (.int j) Q = _
  exact eq_int' i j Q
theorem eqG_str (i j : Str) (Q : D → Prop) : eqG (.str i) (.str j) Q = Q (.bl (i == j)) := propext Iff.rfl
theorem eqG_nil (xs : List D) (Q : D → Prop) : eqG (.lst xs) (.lst []) Q = Q (.bl xs.isEmpty) := propext Iff.rfl
theorem mulG_str (a : Str) (n : Int) (Q : D → Prop) : mulG (.str a) (.int n) Q = ((0 ≤ n ∧ n ≤ 10000 ∧ a.length ≤ 1000) ∧ Q (.str (repS a n.toNat))) := propext Iff.rfl
theorem mulG_tup (xs : List D) (n : Int) (Q : D → Prop) : mulG (.tup xs) (.int n) Q = ((xs ≠ [] ∧ 0 ≤ n ∧ n ≤ 1000 ∧ xs.length ≤ 1000) ∧ Q (.tup (List.replicate n.toNat xs).flatten)) := propext Iff.rfl
theorem pow_int (i j : Int) (Q : D → Prop) : powF (.int i) (.int j) Q = ((0 ≤ j ∧ j ≤ 1000000 ∧ i.natAbs < 2 ^ 64) ∧ Q (.int (i ^ j.toNat))) := propext Iff.rfl
theorem up_str (a : Str) (Q : D → Prop) : upF (.str a) Q = (a.length ≤ 5592405 ∧ Q (.str (Txt.upper a))) := propext Iff.rfl
theorem is_non (d : D) (Q : D → Prop) : isF d .non Q = Q (.bl (isNone d)) := propext Iff.rfl
def isLet (c : Nat) : Bool := decide (c ∈ (Str.ofString "abcdefghijklmnopqrstuvwxyz").cps.toList)
def isWd (s : Str) : Bool := decide (1 ≤ s.length) && decide (s.length ≤ 8) && s.cps.toList.all isLet
theorem wd_parts {s : Str} (h : isWd s = true) : 1 ≤ s.length ∧ s.length ≤ 8 ∧ ∀ c ∈ s.cps.toList, isLet c = true := by
  unfold isWd at h
  simp only [Bool.and_eq_true, decide_eq_true_eq, List.all_eq_true] at h
  exact ⟨h.1.1, h.1.2, h.2⟩
theorem wd_of {s : Str} (h1 : 1 ≤ s.length) (h2 : s.length ≤ 8) (h3 : ∀ c ∈ s.cps.toList, isLet c = true) : isWd s = true := by
  unfold isWd
  simp only [Bool.and_eq_true, decide_eq_true_eq, List.all_eq_true]
  exact ⟨⟨h1, h2⟩, h3⟩
theorem let_small {c : Nat} (h : isLet c = true) : c < 0x110000 := by
  unfold isLet at h
  have h' := of_decide_eq_true h
  have : ∀ c ∈ (Str.ofString "abcdefghijklmnopqrstuvwxyz").cps.toList, c < 0x110000 := by decide +kernel
  exact this c h'
theorem wd_ok {s : Str} (h : isWd s = true) : PyData.strOk s = true := by
  unfold PyData.strOk
  rw [← Array.all_toList, List.all_eq_true]
  exact fun c hc => decide_eq_true (let_small ((wd_parts h).2.2 c hc))
theorem word_spec (s : Str) (hs : s.length ≤ sizeLine) (Q : D → Prop) (h : Q (.bl (isWd s))) : m_is_word [.str s] Q := by
  unfold m_is_word
  simp -implicitDefEqProofs only [Dz.e_rng1, Dz.e_rngQ, Dz.e_seq, Dz.e_next, Dz.e_brk, Dz.e_cont, Dz.e_drop, Dz.e_ifS, Dz.e_asg, Dz.e_par, Dz.e_ret, Dz.e_retN, Dz.e_for, Dz.e_run1, Dz.e_run2, Dz.e_run3, Dz.e_run4, Dz.e_run5, Dz.e_run6, Dz.e_run7, Dz.e_run8, Dz.e_rep0, Dz.e_rep1, Dz.e_rep2, Dz.e_rep3, Dz.e_rep4, Dz.e_rep5, Dz.e_rep6, Dz.e_rep7, Dz.e_rep8, Dz.e_rep9, Dz.e_rep10, Dz.e_rep11, Dz.e_rep12, Dz.e_rep13, Dz.e_rep14, Dz.e_rep15, Dz.e_rep16, Dz.e_rep17, Dz.e_rep18, Dz.e_rep19, Dz.e_rep20, Dz.e_rep21, Dz.e_rep22, Dz.e_rep23, Dz.e_rep24, Dz.e_rep25, Dz.e_v0, Dz.e_s0, Dz.e_v1, Dz.e_s1, Dz.e_v2, Dz.e_s2, Dz.e_v3, Dz.e_s3, Dz.e_v4, Dz.e_s4, Dz.e_v5, Dz.e_s5, Dz.e_v6, Dz.e_s6, Dz.e_v7, Dz.e_s7, Dz.e_v8, Dz.e_s8, Dz.e_v9, Dz.e_s9, Dz.e_v10, Dz.e_s10, Dz.e_v11, Dz.e_s11, Dz.e_v12, Dz.e_s12, Dz.e_v13, Dz.e_s13, Dz.e_v14, Dz.e_s14, Dz.e_v15, Dz.e_s15, Dz.e_v16, Dz.e_s16, Dz.e_v17, Dz.e_s17, Dz.e_v18, Dz.e_s18, Dz.e_v19, Dz.e_s19, Dz.e_v20, Dz.e_s20, Dz.e_v21, Dz.e_s21, Dz.e_v22, Dz.e_s22, Dz.e_v23, Dz.e_s23, Dz.e_v24, Dz.e_s24, Dz.e_v25, Dz.e_s25, Dz.e_c, Dz.e_bin, Dz.e_un, Dz.e_test, Dz.e_tru, Dz.e_and, Dz.e_or, Dz.e_not, Dz.e_yes, Dz.e_andV, Dz.e_orV, Dz.e_notV, Dz.e_orT, Dz.e_andT, Dz.e_if, Dz.e_nil, Dz.e_cons, Dz.e_tup, Dz.e_lst, Dz.e_call, Dz.e_fn, Dz.e_chain, Dz.e_noP, Dz.e_part, Dz.e_sl, Dz.e_m1, Dz.e_m0, Dz.e_gv, Dz.e_gt, Dz.e_gc, Dz.e_gn, Dz.e_lc, Dz.e_w0, Dz.e_w1, Dz.e_list, Dz.e_tupI, Dz.e_strI, Dz.tru_bl, Dz.tru_int, Dz.tru_lst, Dz.tru_tup, Dz.tru_str, Dz.len_lst, Dz.len_tup, Dz.len_str, Dz.add_int', Dz.sub_int', Dz.lt_int', Dz.le_int', Dz.gt_int', Dz.ge_int', Dz.eq_int', Dz.ne_int', Dz.eq_str', Dz.ne_str', Dz.asBl_bl, Dz.asStr_str, Dz.asInt_int, Dz.asLst_lst, Dz.asTup_tup, Dz.add_str', Dz.add_lst', Dz.add_tup', Dz.mul_int', Dz.mul_str', Dz.mod_int'', Dz.div_int', Dz.ix_lst', Dz.ix_tup', Dz.ix_str', Dz.sl_lst', Dz.sl_tup', Dz.sl_str', Dz.neg_int', Dz.at0, Dz.at1, Dz.at2, Dz.at3, Dz.at4, Dz.at5, Dz.at6, Dz.at7, Dz.int_int', Dz.int_bl', Dz.tupF_lst, Dz.tupF_tup, Dz.lstF_lst, Dz.lstF_tup, Dz.is_bl', Dz.not_bl', Dz.take_eq, Dz.some_some, Dz.two_eq, List.length_cons, List.length_nil, List.map_cons, List.map_nil, List.append_nil, List.cons_append, List.nil_append, Nat.reduceAdd, Nat.reduceSub, Nat.reduceLeDiff, Nat.zero_add, Int.toNat_natCast, if_true, if_false, Bool.false_eq_true, Bool.not_true, Bool.not_false, true_and, and_true, ite_true, ite_false, isi_non_int, isi_non_bool, isi_non_str, isi_non_tuple, isi_non_list, isi_non_dict, isi_bl_int, isi_bl_bool, isi_bl_str, isi_bl_tuple, isi_bl_list, isi_bl_dict, isi_int_int, isi_int_bool, isi_int_str, isi_int_tuple, isi_int_list, isi_int_dict, isi_str_int, isi_str_bool, isi_str_str, isi_str_tuple, isi_str_list, isi_str_dict, isi_tup_int, isi_tup_bool, isi_tup_str, isi_tup_tuple, isi_tup_list, isi_tup_dict, isi_lst_int, isi_lst_bool, isi_lst_str, isi_lst_tuple, isi_lst_list, isi_lst_dict, isi_dic_int, isi_dic_bool, isi_dic_str, isi_dic_tuple, isi_dic_list, isi_dic_dict]
  refine ⟨hs, ?_⟩
  by_cases h1 : 1 ≤ s.length
  · rw [if_pos (decide_eq_true (by omega))]
    by_cases h2 : s.length ≤ 8
    · rw [if_neg (by rw [decide_eq_true (show (s.length : Int) ≤ 8 by omega)]; simp)]
      have hl : (chars s).length = s.length := by simp [chars, Str.length]
      refine ⟨by rw [hl]; exact hs, ?_⟩
      unfold chars
      refine comp_mapL _ (fun c => D.bl (isLet c)) _ _ (fun c _ Q q => ?_) ?_
      · exact ⟨c, _, rfl, rfl, q⟩
      · show someD (blsOf (s.cps.toList.map fun c => D.bl (isLet c))) fun bs => Q (.bl (bs.all id))
        rw [show (s.cps.toList.map fun c => D.bl (isLet c)) = (s.cps.toList.map isLet).map D.bl by rw [List.map_map]; rfl, blsOf_map]
        show Q (.bl ((s.cps.toList.map isLet).all id))
        have e : ((s.cps.toList.map isLet).all id) = isWd s := by
          unfold isWd
          rw [decide_eq_true h1, decide_eq_true h2, List.all_map]; rfl
        rw [e]; exact h
    · rw [if_pos (by rw [decide_eq_false (show ¬ (s.length : Int) ≤ 8 by omega)]; rfl)]
      have e : isWd s = false := by unfold isWd; rw [decide_eq_false h2]; simp
      rw [e] at h; exact h
  · rw [if_neg (by rw [decide_eq_false (by omega)]; simp)]
    have e : isWd s = false := by unfold isWd; rw [decide_eq_false h1]; simp
    rw [e] at h; exact h

/-! ### what a datum is -/
def pq (d : D) : Bool := d.pl || d.pd
theorem tup_pq {xs : List D} (h : pq (.tup xs) = true) : ∀ x ∈ xs, pq x = true := by
  intro x hx
  unfold pq at h ⊢
  simp only [D.pl, D.pd, Bool.or_eq_true] at h
  rcases h with h | h
  · have : ∀ (ds : List D), D.plAll ds = true → ∀ x ∈ ds, x.pl = true := by
      intro ds
      induction ds with
      | nil => intro _ x hx; cases hx
      | cons d ds ih =>
        intro h x hx
        simp only [D.plAll, Bool.and_eq_true] at h
        rcases List.mem_cons.mp hx with rfl | hx
        · exact h.1
        · exact ih h.2 x hx
    rw [this xs h x hx]; rfl
  · rw [pdAll_mem h hx]; simp
theorem weight_mem : ∀ {xs : List D} {x : D}, x ∈ xs → x.py.weight + 1 ≤ PyData.weightAll (D.pyAll xs)
  | [], _, h => by cases h
  | y :: xs, x, h => by
    simp only [D.pyAll, PyData.weightAll]
    rcases List.mem_cons.mp h with rfl | h
    · omega
    · have := weight_mem h; omega
theorem weight_len : ∀ (xs : List D), xs.length ≤ PyData.weightAll (D.pyAll xs)
  | [] => Nat.zero_le _
  | y :: xs => by
    simp only [D.pyAll, PyData.weightAll, List.length_cons]
    have := weight_len xs
    omega
def wd : D → Bool
  | .str s => isWd s
  | _ => false
def nm : D → Bool
  | .tup xs => xs.all wd
  | _ => false
/-- small enough to be looked at -/
def Sm (d : D) : Prop := pq d = true ∧ d.py.weight ≤ 100000
theorem Sm.str {s : Str} (h : Sm (.str s)) : s.length ≤ sizeLine := size_le (by
  have := h.2
  simp only [D.py, PyData.weight] at this
  exact this)
theorem Sm.len {xs : List D} (h : Sm (.tup xs)) : xs.length ≤ sizeLine := size_le (by
  have := h.2
  simp only [D.py, PyData.weight] at this
  have := weight_len xs
  omega)
theorem Sm.mem {xs : List D} (h : Sm (.tup xs)) {x : D} (hx : x ∈ xs) : Sm x := ⟨tup_pq h.1 x hx, by
  have := h.2
  simp only [D.py, PyData.weight] at this
  have := weight_mem hx
  omega⟩
theorem isword {d : D} (h : Sm d) (Q : D → Prop) (q : Q (.bl (wd d))) : m_is_word [d] Q := by
  cases d with
  | str s => exact word_spec s h.str Q q
  | obj | ty | cls | bag => exact absurd h.1 (by simp [pq, D.pl, D.pd])
  | _ => unfold m_is_word; simp -implicitDefEqProofs only [Dz.e_rng1, Dz.e_rngQ, Dz.e_seq, Dz.e_next, Dz.e_brk, Dz.e_cont, Dz.e_drop, Dz.e_ifS, Dz.e_asg, Dz.e_par, Dz.e_ret, Dz.e_retN, Dz.e_for, Dz.e_run1, Dz.e_run2, Dz.e_run3, Dz.e_run4, Dz.e_run5, Dz.e_run6, Dz.e_run7, Dz.e_run8, Dz.e_rep0, Dz.e_rep1, Dz.e_rep2, Dz.e_rep3, Dz.e_rep4, Dz.e_rep5, Dz.e_rep6, Dz.e_rep7, Dz.e_rep8, Dz.e_rep9, Dz.e_rep10, Dz.e_rep11, Dz.e_rep12, Dz.e_rep13, Dz.e_rep14, Dz.e_rep15, Dz.e_rep16, Dz.e_rep17, Dz.e_rep18, Dz.e_rep19, Dz.e_rep20, Dz.e_rep21, Dz.e_rep22, Dz.e_rep23, Dz.e_rep24, Dz.e_rep25, Dz.e_v0, Dz.e_s0, Dz.e_v1, Dz.e_s1, Dz.e_v2, Dz.e_s2, Dz.e_v3, Dz.e_s3, Dz.e_v4, Dz.e_s4, Dz.e_v5, Dz.e_s5, Dz.e_v6, Dz.e_s6, Dz.e_v7, Dz.e_s7, Dz.e_v8, Dz.e_s8, Dz.e_v9, Dz.e_s9, Dz.e_v10, Dz.e_s10, Dz.e_v11, Dz.e_s11, Dz.e_v12, Dz.e_s12, Dz.e_v13, Dz.e_s13, Dz.e_v14, Dz.e_s14, Dz.e_v15, Dz.e_s15, Dz.e_v16, Dz.e_s16, Dz.e_v17, Dz.e_s17, Dz.e_v18, Dz.e_s18, Dz.e_v19, Dz.e_s19, Dz.e_v20, Dz.e_s20, Dz.e_v21, Dz.e_s21, Dz.e_v22, Dz.e_s22, Dz.e_v23, Dz.e_s23, Dz.e_v24, Dz.e_s24, Dz.e_v25, Dz.e_s25, Dz.e_c, Dz.e_bin, Dz.e_un, Dz.e_test, Dz.e_tru, Dz.e_and, Dz.e_or, Dz.e_not, Dz.e_yes, Dz.e_andV, Dz.e_orV, Dz.e_notV, Dz.e_orT, Dz.e_andT, Dz.e_if, Dz.e_nil, Dz.e_cons, Dz.e_tup, Dz.e_lst, Dz.e_call, Dz.e_fn, Dz.e_chain, Dz.e_noP, Dz.e_part, Dz.e_sl, Dz.e_m1, Dz.e_m0, Dz.e_gv, Dz.e_gt, Dz.e_gc, Dz.e_gn, Dz.e_lc, Dz.e_w0, Dz.e_w1, Dz.e_list, Dz.e_tupI, Dz.e_strI, Dz.tru_bl, Dz.tru_int, Dz.tru_lst, Dz.tru_tup, Dz.tru_str, Dz.len_lst, Dz.len_tup, Dz.len_str, Dz.add_int', Dz.sub_int', Dz.lt_int', Dz.le_int', Dz.gt_int', Dz.ge_int', Dz.eq_int', Dz.ne_int', Dz.eq_str', Dz.ne_str', Dz.asBl_bl, Dz.asStr_str, Dz.asInt_int, Dz.asLst_lst, Dz.asTup_tup, Dz.add_str', Dz.add_lst', Dz.add_tup', Dz.mul_int', Dz.mul_str', Dz.mod_int'', Dz.div_int', Dz.ix_lst', Dz.ix_tup', Dz.ix_str', Dz.sl_lst', Dz.sl_tup', Dz.sl_str', Dz.neg_int', Dz.at0, Dz.at1, Dz.at2, Dz.at3, Dz.at4, Dz.at5, Dz.at6, Dz.at7, Dz.int_int', Dz.int_bl', Dz.tupF_lst, Dz.tupF_tup, Dz.lstF_lst, Dz.lstF_tup, Dz.is_bl', Dz.not_bl', Dz.take_eq, Dz.some_some, Dz.two_eq, List.length_cons, List.length_nil, List.map_cons, List.map_nil, List.append_nil, List.cons_append, List.nil_append, Nat.reduceAdd, Nat.reduceSub, Nat.reduceLeDiff, Nat.zero_add, Int.toNat_natCast, if_true, if_false, Bool.false_eq_true, Bool.not_true, Bool.not_false, true_and, and_true, ite_true, ite_false, isi_non_int, isi_non_bool, isi_non_str, isi_non_tuple, isi_non_list, isi_non_dict, isi_bl_int, isi_bl_bool, isi_bl_str, isi_bl_tuple, isi_bl_list, isi_bl_dict, isi_int_int, isi_int_bool, isi_int_str, isi_int_tuple, isi_int_list, isi_int_dict, isi_str_int, isi_str_bool, isi_str_str, isi_str_tuple, isi_str_list, isi_str_dict, isi_tup_int, isi_tup_bool, isi_tup_str, isi_tup_tuple, isi_tup_list, isi_tup_dict, isi_lst_int, isi_lst_bool, isi_lst_str, isi_lst_tuple, isi_lst_list, isi_lst_dict, isi_dic_int, isi_dic_bool, isi_dic_str, isi_dic_tuple, isi_dic_list, isi_dic_dict]; exact q
theorem lword {d : D} (h : Sm d) (Q : D → Prop) (q : Q (.bl (wd d))) : m__law_is_word [d] Q := by
  cases d with
  | str s =>
    unfold m__law_is_word
    simp -implicitDefEqProofs only [Dz.e_rng1, Dz.e_rngQ, Dz.e_seq, Dz.e_next, Dz.e_brk, Dz.e_cont, Dz.e_drop, Dz.e_ifS, Dz.e_asg, Dz.e_par, Dz.e_ret, Dz.e_retN, Dz.e_for, Dz.e_run1, Dz.e_run2, Dz.e_run3, Dz.e_run4, Dz.e_run5, Dz.e_run6, Dz.e_run7, Dz.e_run8, Dz.e_rep0, Dz.e_rep1, Dz.e_rep2, Dz.e_rep3, Dz.e_rep4, Dz.e_rep5, Dz.e_rep6, Dz.e_rep7, Dz.e_rep8, Dz.e_rep9, Dz.e_rep10, Dz.e_rep11, Dz.e_rep12, Dz.e_rep13, Dz.e_rep14, Dz.e_rep15, Dz.e_rep16, Dz.e_rep17, Dz.e_rep18, Dz.e_rep19, Dz.e_rep20, Dz.e_rep21, Dz.e_rep22, Dz.e_rep23, Dz.e_rep24, Dz.e_rep25, Dz.e_v0, Dz.e_s0, Dz.e_v1, Dz.e_s1, Dz.e_v2, Dz.e_s2, Dz.e_v3, Dz.e_s3, Dz.e_v4, Dz.e_s4, Dz.e_v5, Dz.e_s5, Dz.e_v6, Dz.e_s6, Dz.e_v7, Dz.e_s7, Dz.e_v8, Dz.e_s8, Dz.e_v9, Dz.e_s9, Dz.e_v10, Dz.e_s10, Dz.e_v11, Dz.e_s11, Dz.e_v12, Dz.e_s12, Dz.e_v13, Dz.e_s13, Dz.e_v14, Dz.e_s14, Dz.e_v15, Dz.e_s15, Dz.e_v16, Dz.e_s16, Dz.e_v17, Dz.e_s17, Dz.e_v18, Dz.e_s18, Dz.e_v19, Dz.e_s19, Dz.e_v20, Dz.e_s20, Dz.e_v21, Dz.e_s21, Dz.e_v22, Dz.e_s22, Dz.e_v23, Dz.e_s23, Dz.e_v24, Dz.e_s24, Dz.e_v25, Dz.e_s25, Dz.e_c, Dz.e_bin, Dz.e_un, Dz.e_test, Dz.e_tru, Dz.e_and, Dz.e_or, Dz.e_not, Dz.e_yes, Dz.e_andV, Dz.e_orV, Dz.e_notV, Dz.e_orT, Dz.e_andT, Dz.e_if, Dz.e_nil, Dz.e_cons, Dz.e_tup, Dz.e_lst, Dz.e_call, Dz.e_fn, Dz.e_chain, Dz.e_noP, Dz.e_part, Dz.e_sl, Dz.e_m1, Dz.e_m0, Dz.e_gv, Dz.e_gt, Dz.e_gc, Dz.e_gn, Dz.e_lc, Dz.e_w0, Dz.e_w1, Dz.e_list, Dz.e_tupI, Dz.e_strI, Dz.tru_bl, Dz.tru_int, Dz.tru_lst, Dz.tru_tup, Dz.tru_str, Dz.len_lst, Dz.len_tup, Dz.len_str, Dz.add_int', Dz.sub_int', Dz.lt_int', Dz.le_int', Dz.gt_int', Dz.ge_int', Dz.eq_int', Dz.ne_int', Dz.eq_str', Dz.ne_str', Dz.asBl_bl, Dz.asStr_str, Dz.asInt_int, Dz.asLst_lst, Dz.asTup_tup, Dz.add_str', Dz.add_lst', Dz.add_tup', Dz.mul_int', Dz.mul_str', Dz.mod_int'', Dz.div_int', Dz.ix_lst', Dz.ix_tup', Dz.ix_str', Dz.sl_lst', Dz.sl_tup', Dz.sl_str', Dz.neg_int', Dz.at0, Dz.at1, Dz.at2, Dz.at3, Dz.at4, Dz.at5, Dz.at6, Dz.at7, Dz.int_int', Dz.int_bl', Dz.tupF_lst, Dz.tupF_tup, Dz.lstF_lst, Dz.lstF_tup, Dz.is_bl', Dz.not_bl', Dz.take_eq, Dz.some_some, Dz.two_eq, List.length_cons, List.length_nil, List.map_cons, List.map_nil, List.append_nil, List.cons_append, List.nil_append, Nat.reduceAdd, Nat.reduceSub, Nat.reduceLeDiff, Nat.zero_add, Int.toNat_natCast, if_true, if_false, Bool.false_eq_true, Bool.not_true, Bool.not_false, true_and, and_true, ite_true, ite_false, isi_non_int, isi_non_bool, isi_non_str, isi_non_tuple, isi_non_list, isi_non_dict, isi_bl_int, isi_bl_bool, isi_bl_str, isi_bl_tuple, isi_bl_list, isi_bl_dict, isi_int_int, isi_int_bool, isi_int_str, isi_int_tuple, isi_int_list, isi_int_dict, isi_str_int, isi_str_bool, isi_str_str, isi_str_tuple, isi_str_list, isi_str_dict, isi_tup_int, isi_tup_bool, isi_tup_str, isi_tup_tuple, isi_tup_list, isi_tup_dict, isi_lst_int, isi_lst_bool, isi_lst_str, isi_lst_tuple, isi_lst_list, isi_lst_dict, isi_dic_int, isi_dic_bool, isi_dic_str, isi_dic_tuple, isi_dic_list, isi_dic_dict, eqG_int]
    have hl := h.str
    refine ⟨hl, ?_⟩
    have q' : Q (.bl (isWd s)) := q
    by_cases h1 : 1 ≤ s.length
    · rw [if_neg (by rw [decide_eq_false (show ¬ (s.length : Int) < 1 by omega)]; simp)]
      refine ⟨hl, ?_⟩
      by_cases h2 : s.length ≤ 8
      · rw [if_neg (by rw [decide_eq_false (show ¬ (s.length : Int) > 8 by omega)]; simp)]
        have hc : (chars s).length = s.length := by simp [chars, Str.length]
        refine ⟨by rw [hc]; exact hl, ?_⟩
        unfold chars
        refine comp_filterL _ (fun c : Nat => D.str ⟨#[c]⟩) (fun c => !isLet c) _ _ (fun c _ Q q => ?_) (fun c _ _ Q q => q) ?_
        · exact ⟨c, _, rfl, rfl, q⟩
        · refine ⟨Nat.zero_le _, ?_⟩
          rw [eqG_nil]
          have e : ((s.cps.toList.filter fun c => !isLet c).map fun c => D.str ⟨#[c]⟩).isEmpty = isWd s := by
            unfold isWd
            rw [decide_eq_true h1, decide_eq_true h2]
            generalize s.cps.toList = l
            simp only [Bool.true_and]
            induction l with
            | nil => rfl
            | cons c l ih =>
              rw [List.filter_cons, List.all_cons]
              cases hc : isLet c with
              | true => simpa using ih
              | false => simp
          rw [e]; exact q'
      · rw [if_pos (by rw [decide_eq_true (show (s.length : Int) > 8 by omega)])]
        have e : isWd s = false := by unfold isWd; rw [decide_eq_false h2]; simp
        rw [e] at q'; exact q'
    · rw [if_pos (by rw [decide_eq_true (show (s.length : Int) < 1 by omega)])]
      have e : isWd s = false := by unfold isWd; rw [decide_eq_false h1]; simp
      rw [e] at q'; exact q'
  | obj | ty | cls | bag => exact absurd h.1 (by simp [pq, D.pl, D.pd])
  | _ => unfold m__law_is_word; simp -implicitDefEqProofs only [Dz.e_rng1, Dz.e_rngQ, Dz.e_seq, Dz.e_next, Dz.e_brk, Dz.e_cont, Dz.e_drop, Dz.e_ifS, Dz.e_asg, Dz.e_par, Dz.e_ret, Dz.e_retN, Dz.e_for, Dz.e_run1, Dz.e_run2, Dz.e_run3, Dz.e_run4, Dz.e_run5, Dz.e_run6, Dz.e_run7, Dz.e_run8, Dz.e_rep0, Dz.e_rep1, Dz.e_rep2, Dz.e_rep3, Dz.e_rep4, Dz.e_rep5, Dz.e_rep6, Dz.e_rep7, Dz.e_rep8, Dz.e_rep9, Dz.e_rep10, Dz.e_rep11, Dz.e_rep12, Dz.e_rep13, Dz.e_rep14, Dz.e_rep15, Dz.e_rep16, Dz.e_rep17, Dz.e_rep18, Dz.e_rep19, Dz.e_rep20, Dz.e_rep21, Dz.e_rep22, Dz.e_rep23, Dz.e_rep24, Dz.e_rep25, Dz.e_v0, Dz.e_s0, Dz.e_v1, Dz.e_s1, Dz.e_v2, Dz.e_s2, Dz.e_v3, Dz.e_s3, Dz.e_v4, Dz.e_s4, Dz.e_v5, Dz.e_s5, Dz.e_v6, Dz.e_s6, Dz.e_v7, Dz.e_s7, Dz.e_v8, Dz.e_s8, Dz.e_v9, Dz.e_s9, Dz.e_v10, Dz.e_s10, Dz.e_v11, Dz.e_s11, Dz.e_v12, Dz.e_s12, Dz.e_v13, Dz.e_s13, Dz.e_v14, Dz.e_s14, Dz.e_v15, Dz.e_s15, Dz.e_v16, Dz.e_s16, Dz.e_v17, Dz.e_s17, Dz.e_v18, Dz.e_s18, Dz.e_v19, Dz.e_s19, Dz.e_v20, Dz.e_s20, Dz.e_v21, Dz.e_s21, Dz.e_v22, Dz.e_s22, Dz.e_v23, Dz.e_s23, Dz.e_v24, Dz.e_s24, Dz.e_v25, Dz.e_s25, Dz.e_c, Dz.e_bin, Dz.e_un, Dz.e_test, Dz.e_tru, Dz.e_and, Dz.e_or, Dz.e_not, Dz.e_yes, Dz.e_andV, Dz.e_orV, Dz.e_notV, Dz.e_orT, Dz.e_andT, Dz.e_if, Dz.e_nil, Dz.e_cons, Dz.e_tup, Dz.e_lst, Dz.e_call, Dz.e_fn, Dz.e_chain, Dz.e_noP, Dz.e_part, Dz.e_sl, Dz.e_m1, Dz.e_m0, Dz.e_gv, Dz.e_gt, Dz.e_gc, Dz.e_gn, Dz.e_lc, Dz.e_w0, Dz.e_w1, Dz.e_list, Dz.e_tupI, Dz.e_strI, Dz.tru_bl, Dz.tru_int, Dz.tru_lst, Dz.tru_tup, Dz.tru_str, Dz.len_lst, Dz.len_tup, Dz.len_str, Dz.add_int', Dz.sub_int', Dz.lt_int', Dz.le_int', Dz.gt_int', Dz.ge_int', Dz.eq_int', Dz.ne_int', Dz.eq_str', Dz.ne_str', Dz.asBl_bl, Dz.asStr_str, Dz.asInt_int, Dz.asLst_lst, Dz.asTup_tup, Dz.add_str', Dz.add_lst', Dz.add_tup', Dz.mul_int', Dz.mul_str', Dz.mod_int'', Dz.div_int', Dz.ix_lst', Dz.ix_tup', Dz.ix_str', Dz.sl_lst', Dz.sl_tup', Dz.sl_str', Dz.neg_int', Dz.at0, Dz.at1, Dz.at2, Dz.at3, Dz.at4, Dz.at5, Dz.at6, Dz.at7, Dz.int_int', Dz.int_bl', Dz.tupF_lst, Dz.tupF_tup, Dz.lstF_lst, Dz.lstF_tup, Dz.is_bl', Dz.not_bl', Dz.take_eq, Dz.some_some, Dz.two_eq, List.length_cons, List.length_nil, List.map_cons, List.map_nil, List.append_nil, List.cons_append, List.nil_append, Nat.reduceAdd, Nat.reduceSub, Nat.reduceLeDiff, Nat.zero_add, Int.toNat_natCast, if_true, if_false, Bool.false_eq_true, Bool.not_true, Bool.not_false, true_and, and_true, ite_true, ite_false, isi_non_int, isi_non_bool, isi_non_str, isi_non_tuple, isi_non_list, isi_non_dict, isi_bl_int, isi_bl_bool, isi_bl_str, isi_bl_tuple, isi_bl_list, isi_bl_dict, isi_int_int, isi_int_bool, isi_int_str, isi_int_tuple, isi_int_list, isi_int_dict, isi_str_int, isi_str_bool, isi_str_str, isi_str_tuple, isi_str_list, isi_str_dict, isi_tup_int, isi_tup_bool, isi_tup_str, isi_tup_tuple, isi_tup_list, isi_tup_dict, isi_lst_int, isi_lst_bool, isi_lst_str, isi_lst_tuple, isi_lst_list, isi_lst_dict, isi_dic_int, isi_dic_bool, isi_dic_str, isi_dic_tuple, isi_dic_list, isi_dic_dict]; exact q
end K11

namespace K11
open PySem PySem.Spec PyProof.Rows L2 Dz
theorem comp_mapI {me : ME} {ρ : Rho} {j : Nat} (f : D → D) (l : List D) (Q : List D → Prop) (h : ∀ a ∈ l, ∀ Q : D → Prop, Q (f a) → me (ρ.set j (.val a)) Q) (q : Q (l.map f)) : compM (gvName j) mYes me ρ l Q := by
  have := comp_mapL (j := j) (me := me) (ρ := ρ) id f l Q h q
  rwa [List.map_id] at this
theorem comp_filterI {mt : MT} {me : ME} {ρ : Rho} {j : Nat} (p : D → Bool) (l : List D) (Q : List D → Prop) (h1 : ∀ a ∈ l, ∀ Q : Bool → Prop, Q (p a) → mt (ρ.set j (.val a)) Q) (h2 : ∀ a ∈ l, p a = true → ∀ Q : D → Prop, Q a → me (ρ.set j (.val a)) Q) (q : Q (l.filter p)) : compM (gvName j) mt me ρ l Q := by
  have := comp_filterL (j := j) (mt := mt) (me := me) (ρ := ρ) id id p l Q h1 h2 (by rwa [List.map_id])
  rwa [List.map_id] at this
theorem isname {d : D} (h : Sm d) (Q : D → Prop) (q : Q (.bl (nm d))) : m_is_name [d] Q := by
  cases d with
  | tup xs =>
    unfold m_is_name
    simp -implicitDefEqProofs only [Dz.e_rng1, Dz.e_rngQ, Dz.e_seq, Dz.e_next, Dz.e_brk, Dz.e_cont, Dz.e_drop, Dz.e_ifS, Dz.e_asg, Dz.e_par, Dz.e_ret, Dz.e_retN, Dz.e_for, Dz.e_run1, Dz.e_run2, Dz.e_run3, Dz.e_run4, Dz.e_run5, Dz.e_run6, Dz.e_run7, Dz.e_run8, Dz.e_rep0, Dz.e_rep1, Dz.e_rep2, Dz.e_rep3, Dz.e_rep4, Dz.e_rep5, Dz.e_rep6, Dz.e_rep7, Dz.e_rep8, Dz.e_rep9, Dz.e_rep10, Dz.e_rep11, Dz.e_rep12, Dz.e_rep13, Dz.e_rep14, Dz.e_rep15, Dz.e_rep16, Dz.e_rep17, Dz.e_rep18, Dz.e_rep19, Dz.e_rep20, Dz.e_rep21, Dz.e_rep22, Dz.e_rep23, Dz.e_rep24, Dz.e_rep25, Dz.e_v0, Dz.e_s0, Dz.e_v1, Dz.e_s1, Dz.e_v2, Dz.e_s2, Dz.e_v3, Dz.e_s3, Dz.e_v4, Dz.e_s4, Dz.e_v5, Dz.e_s5, Dz.e_v6, Dz.e_s6, Dz.e_v7, Dz.e_s7, Dz.e_v8, Dz.e_s8, Dz.e_v9, Dz.e_s9, Dz.e_v10, Dz.e_s10, Dz.e_v11, Dz.e_s11, Dz.e_v12, Dz.e_s12, Dz.e_v13, Dz.e_s13, Dz.e_v14, Dz.e_s14, Dz.e_v15, Dz.e_s15, Dz.e_v16, Dz.e_s16, Dz.e_v17, Dz.e_s17, Dz.e_v18, Dz.e_s18, Dz.e_v19, Dz.e_s19, Dz.e_v20, Dz.e_s20, Dz.e_v21, Dz.e_s21, Dz.e_v22, Dz.e_s22, Dz.e_v23, Dz.e_s23, Dz.e_v24, Dz.e_s24, Dz.e_v25, Dz.e_s25, Dz.e_c, Dz.e_bin, Dz.e_un, Dz.e_test, Dz.e_tru, Dz.e_and, Dz.e_or, Dz.e_not, Dz.e_yes, Dz.e_andV, Dz.e_orV, Dz.e_notV, Dz.e_orT, Dz.e_andT, Dz.e_if, Dz.e_nil, Dz.e_cons, Dz.e_tup, Dz.e_lst, Dz.e_call, Dz.e_fn, Dz.e_chain, Dz.e_noP, Dz.e_part, Dz.e_sl, Dz.e_m1, Dz.e_m0, Dz.e_gv, Dz.e_gt, Dz.e_gc, Dz.e_gn, Dz.e_lc, Dz.e_w0, Dz.e_w1, Dz.e_list, Dz.e_tupI, Dz.e_strI, Dz.tru_bl, Dz.tru_int, Dz.tru_lst, Dz.tru_tup, Dz.tru_str, Dz.len_lst, Dz.len_tup, Dz.len_str, Dz.add_int', Dz.sub_int', Dz.lt_int', Dz.le_int', Dz.gt_int', Dz.ge_int', Dz.eq_int', Dz.ne_int', Dz.eq_str', Dz.ne_str', Dz.asBl_bl, Dz.asStr_str, Dz.asInt_int, Dz.asLst_lst, Dz.asTup_tup, Dz.add_str', Dz.add_lst', Dz.add_tup', Dz.mul_int', Dz.mul_str', Dz.mod_int'', Dz.div_int', Dz.ix_lst', Dz.ix_tup', Dz.ix_str', Dz.sl_lst', Dz.sl_tup', Dz.sl_str', Dz.neg_int', Dz.at0, Dz.at1, Dz.at2, Dz.at3, Dz.at4, Dz.at5, Dz.at6, Dz.at7, Dz.int_int', Dz.int_bl', Dz.tupF_lst, Dz.tupF_tup, Dz.lstF_lst, Dz.lstF_tup, Dz.is_bl', Dz.not_bl', Dz.take_eq, Dz.some_some, Dz.two_eq, List.length_cons, List.length_nil, List.map_cons, List.map_nil, List.append_nil, List.cons_append, List.nil_append, Nat.reduceAdd, Nat.reduceSub, Nat.reduceLeDiff, Nat.zero_add, Int.toNat_natCast, if_true, if_false, Bool.false_eq_true, Bool.not_true, Bool.not_false, true_and, and_true, ite_true, ite_false, isi_non_int, isi_non_bool, isi_non_str, isi_non_tuple, isi_non_list, isi_non_dict, isi_bl_int, isi_bl_bool, isi_bl_str, isi_bl_tuple, isi_bl_list, isi_bl_dict, isi_int_int, isi_int_bool, isi_int_str, isi_int_tuple, isi_int_list, isi_int_dict, isi_str_int, isi_str_bool, isi_str_str, isi_str_tuple, isi_str_list, isi_str_dict, isi_tup_int, isi_tup_bool, isi_tup_str, isi_tup_tuple, isi_tup_list, isi_tup_dict, isi_lst_int, isi_lst_bool, isi_lst_str, isi_lst_tuple, isi_lst_list, isi_lst_dict, isi_dic_int, isi_dic_bool, isi_dic_str, isi_dic_tuple, isi_dic_list, isi_dic_dict]
    refine ⟨h.len, comp_mapI (fun x => D.bl (wd x)) xs _ (fun x hx Q q => ⟨rfl, isword (h.mem hx) Q q⟩) ?_⟩
    show someD (blsOf (xs.map fun x => D.bl (wd x))) fun bs => Q (.bl (bs.all id))
    rw [show (xs.map fun x => D.bl (wd x)) = (xs.map wd).map D.bl by rw [List.map_map]; rfl, blsOf_map]
    show Q (.bl ((xs.map wd).all id))
    rw [List.all_map]; exact q
  | obj | ty | cls | bag => exact absurd h.1 (by simp [pq, D.pl, D.pd])
  | _ => unfold m_is_name; simp -implicitDefEqProofs only [Dz.e_rng1, Dz.e_rngQ, Dz.e_seq, Dz.e_next, Dz.e_brk, Dz.e_cont, Dz.e_drop, Dz.e_ifS, Dz.e_asg, Dz.e_par, Dz.e_ret, Dz.e_retN, Dz.e_for, Dz.e_run1, Dz.e_run2, Dz.e_run3, Dz.e_run4, Dz.e_run5, Dz.e_run6, Dz.e_run7, Dz.e_run8, Dz.e_rep0, Dz.e_rep1, Dz.e_rep2, Dz.e_rep3, Dz.e_rep4, Dz.e_rep5, Dz.e_rep6, Dz.e_rep7, Dz.e_rep8, Dz.e_rep9, Dz.e_rep10, Dz.e_rep11, Dz.e_rep12, Dz.e_rep13, Dz.e_rep14, Dz.e_rep15, Dz.e_rep16, Dz.e_rep17, Dz.e_rep18, Dz.e_rep19, Dz.e_rep20, Dz.e_rep21, Dz.e_rep22, Dz.e_rep23, Dz.e_rep24, Dz.e_rep25, Dz.e_v0, Dz.e_s0, Dz.e_v1, Dz.e_s1, Dz.e_v2, Dz.e_s2, Dz.e_v3, Dz.e_s3, Dz.e_v4, Dz.e_s4, Dz.e_v5, Dz.e_s5, Dz.e_v6, Dz.e_s6, Dz.e_v7, Dz.e_s7, Dz.e_v8, Dz.e_s8, Dz.e_v9, Dz.e_s9, Dz.e_v10, Dz.e_s10, Dz.e_v11, Dz.e_s11, Dz.e_v12, Dz.e_s12, Dz.e_v13, Dz.e_s13, Dz.e_v14, Dz.e_s14, Dz.e_v15, Dz.e_s15, Dz.e_v16, Dz.e_s16, Dz.e_v17, Dz.e_s17, Dz.e_v18, Dz.e_s18, Dz.e_v19, Dz.e_s19, Dz.e_v20, Dz.e_s20, Dz.e_v21, Dz.e_s21, Dz.e_v22, Dz.e_s22, Dz.e_v23, Dz.e_s23, Dz.e_v24, Dz.e_s24, Dz.e_v25, Dz.e_s25, Dz.e_c, Dz.e_bin, Dz.e_un, Dz.e_test, Dz.e_tru, Dz.e_and, Dz.e_or, Dz.e_not, Dz.e_yes, Dz.e_andV, Dz.e_orV, Dz.e_notV, Dz.e_orT, Dz.e_andT, Dz.e_if, Dz.e_nil, Dz.e_cons, Dz.e_tup, Dz.e_lst, Dz.e_call, Dz.e_fn, Dz.e_chain, Dz.e_noP, Dz.e_part, Dz.e_sl, Dz.e_m1, Dz.e_m0, Dz.e_gv, Dz.e_gt, Dz.e_gc, Dz.e_gn, Dz.e_lc, Dz.e_w0, Dz.e_w1, Dz.e_list, Dz.e_tupI, Dz.e_strI, Dz.tru_bl, Dz.tru_int, Dz.tru_lst, Dz.tru_tup, Dz.tru_str, Dz.len_lst, Dz.len_tup, Dz.len_str, Dz.add_int', Dz.sub_int', Dz.lt_int', Dz.le_int', Dz.gt_int', Dz.ge_int', Dz.eq_int', Dz.ne_int', Dz.eq_str', Dz.ne_str', Dz.asBl_bl, Dz.asStr_str, Dz.asInt_int, Dz.asLst_lst, Dz.asTup_tup, Dz.add_str', Dz.add_lst', Dz.add_tup', Dz.mul_int', Dz.mul_str', Dz.mod_int'', Dz.div_int', Dz.ix_lst', Dz.ix_tup', Dz.ix_str', Dz.sl_lst', Dz.sl_tup', Dz.sl_str', Dz.neg_int', Dz.at0, Dz.at1, Dz.at2, Dz.at3, Dz.at4, Dz.at5, Dz.at6, Dz.at7, Dz.int_int', Dz.int_bl', Dz.tupF_lst, Dz.tupF_tup, Dz.lstF_lst, Dz.lstF_tup, Dz.is_bl', Dz.not_bl', Dz.take_eq, Dz.some_some, Dz.two_eq, List.length_cons, List.length_nil, List.map_cons, List.map_nil, List.append_nil, List.cons_append, List.nil_append, Nat.reduceAdd, Nat.reduceSub, Nat.reduceLeDiff, Nat.zero_add, Int.toNat_natCast, if_true, if_false, Bool.false_eq_true, Bool.not_true, Bool.not_false, true_and, and_true, ite_true, ite_false, isi_non_int, isi_non_bool, isi_non_str, isi_non_tuple, isi_non_list, isi_non_dict, isi_bl_int, isi_bl_bool, isi_bl_str, isi_bl_tuple, isi_bl_list, isi_bl_dict, isi_int_int, isi_int_bool, isi_int_str, isi_int_tuple, isi_int_list, isi_int_dict, isi_str_int, isi_str_bool, isi_str_str, isi_str_tuple, isi_str_list, isi_str_dict, isi_tup_int, isi_tup_bool, isi_tup_str, isi_tup_tuple, isi_tup_list, isi_tup_dict, isi_lst_int, isi_lst_bool, isi_lst_str, isi_lst_tuple, isi_lst_list, isi_lst_dict, isi_dic_int, isi_dic_bool, isi_dic_str, isi_dic_tuple, isi_dic_list, isi_dic_dict]; exact q
theorem lname {d : D} (h : Sm d) (Q : D → Prop) (q : Q (.bl (nm d))) : m__law_is_name [d] Q := by
  cases d with
  | tup xs =>
    unfold m__law_is_name
    simp -implicitDefEqProofs only [Dz.e_rng1, Dz.e_rngQ, Dz.e_seq, Dz.e_next, Dz.e_brk, Dz.e_cont, Dz.e_drop, Dz.e_ifS, Dz.e_asg, Dz.e_par, Dz.e_ret, Dz.e_retN, Dz.e_for, Dz.e_run1, Dz.e_run2, Dz.e_run3, Dz.e_run4, Dz.e_run5, Dz.e_run6, Dz.e_run7, Dz.e_run8, Dz.e_rep0, Dz.e_rep1, Dz.e_rep2, Dz.e_rep3, Dz.e_rep4, Dz.e_rep5, Dz.e_rep6, Dz.e_rep7, Dz.e_rep8, Dz.e_rep9, Dz.e_rep10, Dz.e_rep11, Dz.e_rep12, Dz.e_rep13, Dz.e_rep14, Dz.e_rep15, Dz.e_rep16, Dz.e_rep17, Dz.e_rep18, Dz.e_rep19, Dz.e_rep20, Dz.e_rep21, Dz.e_rep22, Dz.e_rep23, Dz.e_rep24, Dz.e_rep25, Dz.e_v0, Dz.e_s0, Dz.e_v1, Dz.e_s1, Dz.e_v2, Dz.e_s2, Dz.e_v3, Dz.e_s3, Dz.e_v4, Dz.e_s4, Dz.e_v5, Dz.e_s5, Dz.e_v6, Dz.e_s6, Dz.e_v7, Dz.e_s7, Dz.e_v8, Dz.e_s8, Dz.e_v9, Dz.e_s9, Dz.e_v10, Dz.e_s10, Dz.e_v11, Dz.e_s11, Dz.e_v12, Dz.e_s12, Dz.e_v13, Dz.e_s13, Dz.e_v14, Dz.e_s14, Dz.e_v15, Dz.e_s15, Dz.e_v16, Dz.e_s16, Dz.e_v17, Dz.e_s17, Dz.e_v18, Dz.e_s18, Dz.e_v19, Dz.e_s19, Dz.e_v20, Dz.e_s20, Dz.e_v21, Dz.e_s21, Dz.e_v22, Dz.e_s22, Dz.e_v23, Dz.e_s23, Dz.e_v24, Dz.e_s24, Dz.e_v25, Dz.e_s25, Dz.e_c, Dz.e_bin, Dz.e_un, Dz.e_test, Dz.e_tru, Dz.e_and, Dz.e_or, Dz.e_not, Dz.e_yes, Dz.e_andV, Dz.e_orV, Dz.e_notV, Dz.e_orT, Dz.e_andT, Dz.e_if, Dz.e_nil, Dz.e_cons, Dz.e_tup, Dz.e_lst, Dz.e_call, Dz.e_fn, Dz.e_chain, Dz.e_noP, Dz.e_part, Dz.e_sl, Dz.e_m1, Dz.e_m0, Dz.e_gv, Dz.e_gt, Dz.e_gc, Dz.e_gn, Dz.e_lc, Dz.e_w0, Dz.e_w1, Dz.e_list, Dz.e_tupI, Dz.e_strI, Dz.tru_bl, Dz.tru_int, Dz.tru_lst, Dz.tru_tup, Dz.tru_str, Dz.len_lst, Dz.len_tup, Dz.len_str, Dz.add_int', Dz.sub_int', Dz.lt_int', Dz.le_int', Dz.gt_int', Dz.ge_int', Dz.eq_int', Dz.ne_int', Dz.eq_str', Dz.ne_str', Dz.asBl_bl, Dz.asStr_str, Dz.asInt_int, Dz.asLst_lst, Dz.asTup_tup, Dz.add_str', Dz.add_lst', Dz.add_tup', Dz.mul_int', Dz.mul_str', Dz.mod_int'', Dz.div_int', Dz.ix_lst', Dz.ix_tup', Dz.ix_str', Dz.sl_lst', Dz.sl_tup', Dz.sl_str', Dz.neg_int', Dz.at0, Dz.at1, Dz.at2, Dz.at3, Dz.at4, Dz.at5, Dz.at6, Dz.at7, Dz.int_int', Dz.int_bl', Dz.tupF_lst, Dz.tupF_tup, Dz.lstF_lst, Dz.lstF_tup, Dz.is_bl', Dz.not_bl', Dz.take_eq, Dz.some_some, Dz.two_eq, List.length_cons, List.length_nil, List.map_cons, List.map_nil, List.append_nil, List.cons_append, List.nil_append, Nat.reduceAdd, Nat.reduceSub, Nat.reduceLeDiff, Nat.zero_add, Int.toNat_natCast, if_true, if_false, Bool.false_eq_true, Bool.not_true, Bool.not_false, true_and, and_true, ite_true, ite_false, isi_non_int, isi_non_bool, isi_non_str, isi_non_tuple, isi_non_list, isi_non_dict, isi_bl_int, isi_bl_bool, isi_bl_str, isi_bl_tuple, isi_bl_list, isi_bl_dict, isi_int_int, isi_int_bool, isi_int_str, isi_int_tuple, isi_int_list, isi_int_dict, isi_str_int, isi_str_bool, isi_str_str, isi_str_tuple, isi_str_list, isi_str_dict, isi_tup_int, isi_tup_bool, isi_tup_str, isi_tup_tuple, isi_tup_list, isi_tup_dict, isi_lst_int, isi_lst_bool, isi_lst_str, isi_lst_tuple, isi_lst_list, isi_lst_dict, isi_dic_int, isi_dic_bool, isi_dic_str, isi_dic_tuple, isi_dic_list, isi_dic_dict]
    refine ⟨h.len, comp_filterI (fun x => !wd x) xs _ (fun x hx Q q => ?_) (fun x _ _ Q q => q) ?_⟩
    · simp -implicitDefEqProofs only [Dz.e_rng1, Dz.e_rngQ, Dz.e_seq, Dz.e_next, Dz.e_brk, Dz.e_cont, Dz.e_drop, Dz.e_ifS, Dz.e_asg, Dz.e_par, Dz.e_ret, Dz.e_retN, Dz.e_for, Dz.e_run1, Dz.e_run2, Dz.e_run3, Dz.e_run4, Dz.e_run5, Dz.e_run6, Dz.e_run7, Dz.e_run8, Dz.e_rep0, Dz.e_rep1, Dz.e_rep2, Dz.e_rep3, Dz.e_rep4, Dz.e_rep5, Dz.e_rep6, Dz.e_rep7, Dz.e_rep8, Dz.e_rep9, Dz.e_rep10, Dz.e_rep11, Dz.e_rep12, Dz.e_rep13, Dz.e_rep14, Dz.e_rep15, Dz.e_rep16, Dz.e_rep17, Dz.e_rep18, Dz.e_rep19, Dz.e_rep20, Dz.e_rep21, Dz.e_rep22, Dz.e_rep23, Dz.e_rep24, Dz.e_rep25, Dz.e_v0, Dz.e_s0, Dz.e_v1, Dz.e_s1, Dz.e_v2, Dz.e_s2, Dz.e_v3, Dz.e_s3, Dz.e_v4, Dz.e_s4, Dz.e_v5, Dz.e_s5, Dz.e_v6, Dz.e_s6, Dz.e_v7, Dz.e_s7, Dz.e_v8, Dz.e_s8, Dz.e_v9, Dz.e_s9, Dz.e_v10, Dz.e_s10, Dz.e_v11, Dz.e_s11, Dz.e_v12, Dz.e_s12, Dz.e_v13, Dz.e_s13, Dz.e_v14, Dz.e_s14, Dz.e_v15, Dz.e_s15, Dz.e_v16, Dz.e_s16, Dz.e_v17, Dz.e_s17, Dz.e_v18, Dz.e_s18, Dz.e_v19, Dz.e_s19, Dz.e_v20, Dz.e_s20, Dz.e_v21, Dz.e_s21, Dz.e_v22, Dz.e_s22, Dz.e_v23, Dz.e_s23, Dz.e_v24, Dz.e_s24, Dz.e_v25, Dz.e_s25, Dz.e_c, Dz.e_bin, Dz.e_un, Dz.e_test, Dz.e_tru, Dz.e_and, Dz.e_or, Dz.e_not, Dz.e_yes, Dz.e_andV, Dz.e_orV, Dz.e_notV, Dz.e_orT, Dz.e_andT, Dz.e_if, Dz.e_nil, Dz.e_cons, Dz.e_tup, Dz.e_lst, Dz.e_call, Dz.e_fn, Dz.e_chain, Dz.e_noP, Dz.e_part, Dz.e_sl, Dz.e_m1, Dz.e_m0, Dz.e_gv, Dz.e_gt, Dz.e_gc, Dz.e_gn, Dz.e_lc, Dz.e_w0, Dz.e_w1, Dz.e_list, Dz.e_tupI, Dz.e_strI, Dz.tru_bl, Dz.tru_int, Dz.tru_lst, Dz.tru_tup, Dz.tru_str, Dz.len_lst, Dz.len_tup, Dz.len_str, Dz.add_int', Dz.sub_int', Dz.lt_int', Dz.le_int', Dz.gt_int', Dz.ge_int', Dz.eq_int', Dz.ne_int', Dz.eq_str', Dz.ne_str', Dz.asBl_bl, Dz.asStr_str, Dz.asInt_int, Dz.asLst_lst, Dz.asTup_tup, Dz.add_str', Dz.add_lst', Dz.add_tup', Dz.mul_int', Dz.mul_str', Dz.mod_int'', Dz.div_int', Dz.ix_lst', Dz.ix_tup', Dz.ix_str', Dz.sl_lst', Dz.sl_tup', Dz.sl_str', Dz.neg_int', Dz.at0, Dz.at1, Dz.at2, Dz.at3, Dz.at4, Dz.at5, Dz.at6, Dz.at7, Dz.int_int', Dz.int_bl', Dz.tupF_lst, Dz.tupF_tup, Dz.lstF_lst, Dz.lstF_tup, Dz.is_bl', Dz.not_bl', Dz.take_eq, Dz.some_some, Dz.two_eq, List.length_cons, List.length_nil, List.map_cons, List.map_nil, List.append_nil, List.cons_append, List.nil_append, Nat.reduceAdd, Nat.reduceSub, Nat.reduceLeDiff, Nat.zero_add, Int.toNat_natCast, if_true, if_false, Bool.false_eq_true, Bool.not_true, Bool.not_false, true_and, and_true, ite_true, ite_false, isi_non_int, isi_non_bool, isi_non_str, isi_non_tuple, isi_non_list, isi_non_dict, isi_bl_int, isi_bl_bool, isi_bl_str, isi_bl_tuple, isi_bl_list, isi_bl_dict, isi_int_int, isi_int_bool, isi_int_str, isi_int_tuple, isi_int_list, isi_int_dict, isi_str_int, isi_str_bool, isi_str_str, isi_str_tuple, isi_str_list, isi_str_dict, isi_tup_int, isi_tup_bool, isi_tup_str, isi_tup_tuple, isi_tup_list, isi_tup_dict, isi_lst_int, isi_lst_bool, isi_lst_str, isi_lst_tuple, isi_lst_list, isi_lst_dict, isi_dic_int, isi_dic_bool, isi_dic_str, isi_dic_tuple, isi_dic_list, isi_dic_dict]
      exact lword (h.mem hx) _ q
    · refine ⟨Nat.zero_le _, ?_⟩
      rw [eqG_nil]
      have e : (xs.filter fun x => !wd x).isEmpty = nm (.tup xs) := by
        show _ = xs.all wd
        clear q h
        induction xs with
        | nil => rfl
        | cons c l ih =>
          rw [List.filter_cons, List.all_cons]
          cases hc : wd c with
          | true => simpa using ih
          | false => simp
      rw [e]; exact q
  | obj | ty | cls | bag => exact absurd h.1 (by simp [pq, D.pl, D.pd])
  | _ => unfold m__law_is_name; simp -implicitDefEqProofs only [Dz.e_rng1, Dz.e_rngQ, Dz.e_seq, Dz.e_next, Dz.e_brk, Dz.e_cont, Dz.e_drop, Dz.e_ifS, Dz.e_asg, Dz.e_par, Dz.e_ret, Dz.e_retN, Dz.e_for, Dz.e_run1, Dz.e_run2, Dz.e_run3, Dz.e_run4, Dz.e_run5, Dz.e_run6, Dz.e_run7, Dz.e_run8, Dz.e_rep0, Dz.e_rep1, Dz.e_rep2, Dz.e_rep3, Dz.e_rep4, Dz.e_rep5, Dz.e_rep6, Dz.e_rep7, Dz.e_rep8, Dz.e_rep9, Dz.e_rep10, Dz.e_rep11, Dz.e_rep12, Dz.e_rep13, Dz.e_rep14, Dz.e_rep15, Dz.e_rep16, Dz.e_rep17, Dz.e_rep18, Dz.e_rep19, Dz.e_rep20, Dz.e_rep21, Dz.e_rep22, Dz.e_rep23, Dz.e_rep24, Dz.e_rep25, Dz.e_v0, Dz.e_s0, Dz.e_v1, Dz.e_s1, Dz.e_v2, Dz.e_s2, Dz.e_v3, Dz.e_s3, Dz.e_v4, Dz.e_s4, Dz.e_v5, Dz.e_s5, Dz.e_v6, Dz.e_s6, Dz.e_v7, Dz.e_s7, Dz.e_v8, Dz.e_s8, Dz.e_v9, Dz.e_s9, Dz.e_v10, Dz.e_s10, Dz.e_v11, Dz.e_s11, Dz.e_v12, Dz.e_s12, Dz.e_v13, Dz.e_s13, Dz.e_v14, Dz.e_s14, Dz.e_v15, Dz.e_s15, Dz.e_v16, Dz.e_s16, Dz.e_v17, Dz.e_s17, Dz.e_v18, Dz.e_s18, Dz.e_v19, Dz.e_s19, Dz.e_v20, Dz.e_s20, Dz.e_v21, Dz.e_s21, Dz.e_v22, Dz.e_s22, Dz.e_v23, Dz.e_s23, Dz.e_v24, Dz.e_s24, Dz.e_v25, Dz.e_s25, Dz.e_c, Dz.e_bin, Dz.e_un, Dz.e_test, Dz.e_tru, Dz.e_and, Dz.e_or, Dz.e_not, Dz.e_yes, Dz.e_andV, Dz.e_orV, Dz.e_notV, Dz.e_orT, Dz.e_andT, Dz.e_if, Dz.e_nil, Dz.e_cons, Dz.e_tup, Dz.e_lst, Dz.e_call, Dz.e_fn, Dz.e_chain, Dz.e_noP, Dz.e_part, Dz.e_sl, Dz.e_m1, Dz.e_m0, Dz.e_gv, Dz.e_gt, Dz.e_gc, Dz.e_gn, Dz.e_lc, Dz.e_w0, Dz.e_w1, Dz.e_list, Dz.e_tupI, Dz.e_strI, Dz.tru_bl, Dz.tru_int, Dz.tru_lst, Dz.tru_tup, Dz.tru_str, Dz.len_lst, Dz.len_tup, Dz.len_str, Dz.add_int', Dz.sub_int', Dz.lt_int', Dz.le_int', Dz.gt_int', Dz.ge_int', Dz.eq_int', Dz.ne_int', Dz.eq_str', Dz.ne_str', Dz.asBl_bl, Dz.asStr_str, Dz.asInt_int, Dz.asLst_lst, Dz.asTup_tup, Dz.add_str', Dz.add_lst', Dz.add_tup', Dz.mul_int', Dz.mul_str', Dz.mod_int'', Dz.div_int', Dz.ix_lst', Dz.ix_tup', Dz.ix_str', Dz.sl_lst', Dz.sl_tup', Dz.sl_str', Dz.neg_int', Dz.at0, Dz.at1, Dz.at2, Dz.at3, Dz.at4, Dz.at5, Dz.at6, Dz.at7, Dz.int_int', Dz.int_bl', Dz.tupF_lst, Dz.tupF_tup, Dz.lstF_lst, Dz.lstF_tup, Dz.is_bl', Dz.not_bl', Dz.take_eq, Dz.some_some, Dz.two_eq, List.length_cons, List.length_nil, List.map_cons, List.map_nil, List.append_nil, List.cons_append, List.nil_append, Nat.reduceAdd, Nat.reduceSub, Nat.reduceLeDiff, Nat.zero_add, Int.toNat_natCast, if_true, if_false, Bool.false_eq_true, Bool.not_true, Bool.not_false, true_and, and_true, ite_true, ite_false, isi_non_int, isi_non_bool, isi_non_str, isi_non_tuple, isi_non_list, isi_non_dict, isi_bl_int, isi_bl_bool, isi_bl_str, isi_bl_tuple, isi_bl_list, isi_bl_dict, isi_int_int, isi_int_bool, isi_int_str, isi_int_tuple, isi_int_list, isi_int_dict, isi_str_int, isi_str_bool, isi_str_str, isi_str_tuple, isi_str_list, isi_str_dict, isi_tup_int, isi_tup_bool, isi_tup_str, isi_tup_tuple, isi_tup_list, isi_tup_dict, isi_lst_int, isi_lst_bool, isi_lst_str, isi_lst_tuple, isi_lst_list, isi_lst_dict, isi_dic_int, isi_dic_bool, isi_dic_str, isi_dic_tuple, isi_dic_list, isi_dic_dict]; exact q
def isI : D → Bool
  | .int _ => true
  | _ => false
def iw (a b : Int) : D → Bool
  | .int i => decide (a ≤ i) && decide (i ≤ b)
  | _ => false
def cp : D → Bool
  | .tup xs => xs.length == 2
  | _ => false
def hd2 (f g : D → Bool) : D → Bool
  | .tup [a, b] => f a && g b
  | _ => false
def ct (d : D) : Bool := isNone d || iw 0 8 d
theorem isint {d : D} (h : Sm d) (Q : D → Prop) (q : Q (.bl (isI d))) : m_is_integer [d] Q := by
  cases d with
  | obj | ty | cls | bag => exact absurd h.1 (by simp [pq, D.pl, D.pd])
  | _ => unfold m_is_integer; simp -implicitDefEqProofs only [Dz.e_rng1, Dz.e_rngQ, Dz.e_seq, Dz.e_next, Dz.e_brk, Dz.e_cont, Dz.e_drop, Dz.e_ifS, Dz.e_asg, Dz.e_par, Dz.e_ret, Dz.e_retN, Dz.e_for, Dz.e_run1, Dz.e_run2, Dz.e_run3, Dz.e_run4, Dz.e_run5, Dz.e_run6, Dz.e_run7, Dz.e_run8, Dz.e_rep0, Dz.e_rep1, Dz.e_rep2, Dz.e_rep3, Dz.e_rep4, Dz.e_rep5, Dz.e_rep6, Dz.e_rep7, Dz.e_rep8, Dz.e_rep9, Dz.e_rep10, Dz.e_rep11, Dz.e_rep12, Dz.e_rep13, Dz.e_rep14, Dz.e_rep15, Dz.e_rep16, Dz.e_rep17, Dz.e_rep18, Dz.e_rep19, Dz.e_rep20, Dz.e_rep21, Dz.e_rep22, Dz.e_rep23, Dz.e_rep24, Dz.e_rep25, Dz.e_v0, Dz.e_s0, Dz.e_v1, Dz.e_s1, Dz.e_v2, Dz.e_s2, Dz.e_v3, Dz.e_s3, Dz.e_v4, Dz.e_s4, Dz.e_v5, Dz.e_s5, Dz.e_v6, Dz.e_s6, Dz.e_v7, Dz.e_s7, Dz.e_v8, Dz.e_s8, Dz.e_v9, Dz.e_s9, Dz.e_v10, Dz.e_s10, Dz.e_v11, Dz.e_s11, Dz.e_v12, Dz.e_s12, Dz.e_v13, Dz.e_s13, Dz.e_v14, Dz.e_s14, Dz.e_v15, Dz.e_s15, Dz.e_v16, Dz.e_s16, Dz.e_v17, Dz.e_s17, Dz.e_v18, Dz.e_s18, Dz.e_v19, Dz.e_s19, Dz.e_v20, Dz.e_s20, Dz.e_v21, Dz.e_s21, Dz.e_v22, Dz.e_s22, Dz.e_v23, Dz.e_s23, Dz.e_v24, Dz.e_s24, Dz.e_v25, Dz.e_s25, Dz.e_c, Dz.e_bin, Dz.e_un, Dz.e_test, Dz.e_tru, Dz.e_and, Dz.e_or, Dz.e_not, Dz.e_yes, Dz.e_andV, Dz.e_orV, Dz.e_notV, Dz.e_orT, Dz.e_andT, Dz.e_if, Dz.e_nil, Dz.e_cons, Dz.e_tup, Dz.e_lst, Dz.e_call, Dz.e_fn, Dz.e_chain, Dz.e_noP, Dz.e_part, Dz.e_sl, Dz.e_m1, Dz.e_m0, Dz.e_gv, Dz.e_gt, Dz.e_gc, Dz.e_gn, Dz.e_lc, Dz.e_w0, Dz.e_w1, Dz.e_list, Dz.e_tupI, Dz.e_strI, Dz.tru_bl, Dz.tru_int, Dz.tru_lst, Dz.tru_tup, Dz.tru_str, Dz.len_lst, Dz.len_tup, Dz.len_str, Dz.add_int', Dz.sub_int', Dz.lt_int', Dz.le_int', Dz.gt_int', Dz.ge_int', Dz.eq_int', Dz.ne_int', Dz.eq_str', Dz.ne_str', Dz.asBl_bl, Dz.asStr_str, Dz.asInt_int, Dz.asLst_lst, Dz.asTup_tup, Dz.add_str', Dz.add_lst', Dz.add_tup', Dz.mul_int', Dz.mul_str', Dz.mod_int'', Dz.div_int', Dz.ix_lst', Dz.ix_tup', Dz.ix_str', Dz.sl_lst', Dz.sl_tup', Dz.sl_str', Dz.neg_int', Dz.at0, Dz.at1, Dz.at2, Dz.at3, Dz.at4, Dz.at5, Dz.at6, Dz.at7, Dz.int_int', Dz.int_bl', Dz.tupF_lst, Dz.tupF_tup, Dz.lstF_lst, Dz.lstF_tup, Dz.is_bl', Dz.not_bl', Dz.take_eq, Dz.some_some, Dz.two_eq, List.length_cons, List.length_nil, List.map_cons, List.map_nil, List.append_nil, List.cons_append, List.nil_append, Nat.reduceAdd, Nat.reduceSub, Nat.reduceLeDiff, Nat.zero_add, Int.toNat_natCast, if_true, if_false, Bool.false_eq_true, Bool.not_true, Bool.not_false, true_and, and_true, ite_true, ite_false, isi_non_int, isi_non_bool, isi_non_str, isi_non_tuple, isi_non_list, isi_non_dict, isi_bl_int, isi_bl_bool, isi_bl_str, isi_bl_tuple, isi_bl_list, isi_bl_dict, isi_int_int, isi_int_bool, isi_int_str, isi_int_tuple, isi_int_list, isi_int_dict, isi_str_int, isi_str_bool, isi_str_str, isi_str_tuple, isi_str_list, isi_str_dict, isi_tup_int, isi_tup_bool, isi_tup_str, isi_tup_tuple, isi_tup_list, isi_tup_dict, isi_lst_int, isi_lst_bool, isi_lst_str, isi_lst_tuple, isi_lst_list, isi_lst_dict, isi_dic_int, isi_dic_bool, isi_dic_str, isi_dic_tuple, isi_dic_list, isi_dic_dict]; exact q
theorem lwithin {d : D} (h : Sm d) (a b : Int) (Q : D → Prop) (q : Q (.bl (iw a b d))) : m__law_within [d, .int a, .int b] Q := by
  cases d with
  | int i =>
    unfold m__law_within; simp -implicitDefEqProofs only [Dz.e_rng1, Dz.e_rngQ, Dz.e_seq, Dz.e_next, Dz.e_brk, Dz.e_cont, Dz.e_drop, Dz.e_ifS, Dz.e_asg, Dz.e_par, Dz.e_ret, Dz.e_retN, Dz.e_for, Dz.e_run1, Dz.e_run2, Dz.e_run3, Dz.e_run4, Dz.e_run5, Dz.e_run6, Dz.e_run7, Dz.e_run8, Dz.e_rep0, Dz.e_rep1, Dz.e_rep2, Dz.e_rep3, Dz.e_rep4, Dz.e_rep5, Dz.e_rep6, Dz.e_rep7, Dz.e_rep8, Dz.e_rep9, Dz.e_rep10, Dz.e_rep11, Dz.e_rep12, Dz.e_rep13, Dz.e_rep14, Dz.e_rep15, Dz.e_rep16, Dz.e_rep17, Dz.e_rep18, Dz.e_rep19, Dz.e_rep20, Dz.e_rep21, Dz.e_rep22, Dz.e_rep23, Dz.e_rep24, Dz.e_rep25, Dz.e_v0, Dz.e_s0, Dz.e_v1, Dz.e_s1, Dz.e_v2, Dz.e_s2, Dz.e_v3, Dz.e_s3, Dz.e_v4, Dz.e_s4, Dz.e_v5, Dz.e_s5, Dz.e_v6, Dz.e_s6, Dz.e_v7, Dz.e_s7, Dz.e_v8, Dz.e_s8, Dz.e_v9, Dz.e_s9, Dz.e_v10, Dz.e_s10, Dz.e_v11, Dz.e_s11, Dz.e_v12, Dz.e_s12, Dz.e_v13, Dz.e_s13, Dz.e_v14, Dz.e_s14, Dz.e_v15, Dz.e_s15, Dz.e_v16, Dz.e_s16, Dz.e_v17, Dz.e_s17, Dz.e_v18, Dz.e_s18, Dz.e_v19, Dz.e_s19, Dz.e_v20, Dz.e_s20, Dz.e_v21, Dz.e_s21, Dz.e_v22, Dz.e_s22, Dz.e_v23, Dz.e_s23, Dz.e_v24, Dz.e_s24, Dz.e_v25, Dz.e_s25, Dz.e_c, Dz.e_bin, Dz.e_un, Dz.e_test, Dz.e_tru, Dz.e_and, Dz.e_or, Dz.e_not, Dz.e_yes, Dz.e_andV, Dz.e_orV, Dz.e_notV, Dz.e_orT, Dz.e_andT, Dz.e_if, Dz.e_nil, Dz.e_cons, Dz.e_tup, Dz.e_lst, Dz.e_call, Dz.e_fn, Dz.e_chain, Dz.e_noP, Dz.e_part, Dz.e_sl, Dz.e_m1, Dz.e_m0, Dz.e_gv, Dz.e_gt, Dz.e_gc, Dz.e_gn, Dz.e_lc, Dz.e_w0, Dz.e_w1, Dz.e_list, Dz.e_tupI, Dz.e_strI, Dz.tru_bl, Dz.tru_int, Dz.tru_lst, Dz.tru_tup, Dz.tru_str, Dz.len_lst, Dz.len_tup, Dz.len_str, Dz.add_int', Dz.sub_int', Dz.lt_int', Dz.le_int', Dz.gt_int', Dz.ge_int', Dz.eq_int', Dz.ne_int', Dz.eq_str', Dz.ne_str', Dz.asBl_bl, Dz.asStr_str, Dz.asInt_int, Dz.asLst_lst, Dz.asTup_tup, Dz.add_str', Dz.add_lst', Dz.add_tup', Dz.mul_int', Dz.mul_str', Dz.mod_int'', Dz.div_int', Dz.ix_lst', Dz.ix_tup', Dz.ix_str', Dz.sl_lst', Dz.sl_tup', Dz.sl_str', Dz.neg_int', Dz.at0, Dz.at1, Dz.at2, Dz.at3, Dz.at4, Dz.at5, Dz.at6, Dz.at7, Dz.int_int', Dz.int_bl', Dz.tupF_lst, Dz.tupF_tup, Dz.lstF_lst, Dz.lstF_tup, Dz.is_bl', Dz.not_bl', Dz.take_eq, Dz.some_some, Dz.two_eq, List.length_cons, List.length_nil, List.map_cons, List.map_nil, List.append_nil, List.cons_append, List.nil_append, Nat.reduceAdd, Nat.reduceSub, Nat.reduceLeDiff, Nat.zero_add, Int.toNat_natCast, if_true, if_false, Bool.false_eq_true, Bool.not_true, Bool.not_false, true_and, and_true, ite_true, ite_false, isi_non_int, isi_non_bool, isi_non_str, isi_non_tuple, isi_non_list, isi_non_dict, isi_bl_int, isi_bl_bool, isi_bl_str, isi_bl_tuple, isi_bl_list, isi_bl_dict, isi_int_int, isi_int_bool, isi_int_str, isi_int_tuple, isi_int_list, isi_int_dict, isi_str_int, isi_str_bool, isi_str_str, isi_str_tuple, isi_str_list, isi_str_dict, isi_tup_int, isi_tup_bool, isi_tup_str, isi_tup_tuple, isi_tup_list, isi_tup_dict, isi_lst_int, isi_lst_bool, isi_lst_str, isi_lst_tuple, isi_lst_list, isi_lst_dict, isi_dic_int, isi_dic_bool, isi_dic_str, isi_dic_tuple, isi_dic_list, isi_dic_dict]
    replace q : Q (.bl (decide (a ≤ i) && decide (i ≤ b))) := q
    by_cases c : a ≤ i
    · rw [if_pos (decide_eq_true c)]
      rw [decide_eq_true c, Bool.true_and] at q; exact q
    · rw [if_neg (by simpa using c)]
      rw [decide_eq_false c, Bool.false_and] at q; exact q
  | obj | ty | cls | bag => exact absurd h.1 (by simp [pq, D.pl, D.pd])
  | _ => unfold m__law_within; simp -implicitDefEqProofs only [Dz.e_rng1, Dz.e_rngQ, Dz.e_seq, Dz.e_next, Dz.e_brk, Dz.e_cont, Dz.e_drop, Dz.e_ifS, Dz.e_asg, Dz.e_par, Dz.e_ret, Dz.e_retN, Dz.e_for, Dz.e_run1, Dz.e_run2, Dz.e_run3, Dz.e_run4, Dz.e_run5, Dz.e_run6, Dz.e_run7, Dz.e_run8, Dz.e_rep0, Dz.e_rep1, Dz.e_rep2, Dz.e_rep3, Dz.e_rep4, Dz.e_rep5, Dz.e_rep6, Dz.e_rep7, Dz.e_rep8, Dz.e_rep9, Dz.e_rep10, Dz.e_rep11, Dz.e_rep12, Dz.e_rep13, Dz.e_rep14, Dz.e_rep15, Dz.e_rep16, Dz.e_rep17, Dz.e_rep18, Dz.e_rep19, Dz.e_rep20, Dz.e_rep21, Dz.e_rep22, Dz.e_rep23, Dz.e_rep24, Dz.e_rep25, Dz.e_v0, Dz.e_s0, Dz.e_v1, Dz.e_s1, Dz.e_v2, Dz.e_s2, Dz.e_v3, Dz.e_s3, Dz.e_v4, Dz.e_s4, Dz.e_v5, Dz.e_s5, Dz.e_v6, Dz.e_s6, Dz.e_v7, Dz.e_s7, Dz.e_v8, Dz.e_s8, Dz.e_v9, Dz.e_s9, Dz.e_v10, Dz.e_s10, Dz.e_v11, Dz.e_s11, Dz.e_v12, Dz.e_s12, Dz.e_v13, Dz.e_s13, Dz.e_v14, Dz.e_s14, Dz.e_v15, Dz.e_s15, Dz.e_v16, Dz.e_s16, Dz.e_v17, Dz.e_s17, Dz.e_v18, Dz.e_s18, Dz.e_v19, Dz.e_s19, Dz.e_v20, Dz.e_s20, Dz.e_v21, Dz.e_s21, Dz.e_v22, Dz.e_s22, Dz.e_v23, Dz.e_s23, Dz.e_v24, Dz.e_s24, Dz.e_v25, Dz.e_s25, Dz.e_c, Dz.e_bin, Dz.e_un, Dz.e_test, Dz.e_tru, Dz.e_and, Dz.e_or, Dz.e_not, Dz.e_yes, Dz.e_andV, Dz.e_orV, Dz.e_notV, Dz.e_orT, Dz.e_andT, Dz.e_if, Dz.e_nil, Dz.e_cons, Dz.e_tup, Dz.e_lst, Dz.e_call, Dz.e_fn, Dz.e_chain, Dz.e_noP, Dz.e_part, Dz.e_sl, Dz.e_m1, Dz.e_m0, Dz.e_gv, Dz.e_gt, Dz.e_gc, Dz.e_gn, Dz.e_lc, Dz.e_w0, Dz.e_w1, Dz.e_list, Dz.e_tupI, Dz.e_strI, Dz.tru_bl, Dz.tru_int, Dz.tru_lst, Dz.tru_tup, Dz.tru_str, Dz.len_lst, Dz.len_tup, Dz.len_str, Dz.add_int', Dz.sub_int', Dz.lt_int', Dz.le_int', Dz.gt_int', Dz.ge_int', Dz.eq_int', Dz.ne_int', Dz.eq_str', Dz.ne_str', Dz.asBl_bl, Dz.asStr_str, Dz.asInt_int, Dz.asLst_lst, Dz.asTup_tup, Dz.add_str', Dz.add_lst', Dz.add_tup', Dz.mul_int', Dz.mul_str', Dz.mod_int'', Dz.div_int', Dz.ix_lst', Dz.ix_tup', Dz.ix_str', Dz.sl_lst', Dz.sl_tup', Dz.sl_str', Dz.neg_int', Dz.at0, Dz.at1, Dz.at2, Dz.at3, Dz.at4, Dz.at5, Dz.at6, Dz.at7, Dz.int_int', Dz.int_bl', Dz.tupF_lst, Dz.tupF_tup, Dz.lstF_lst, Dz.lstF_tup, Dz.is_bl', Dz.not_bl', Dz.take_eq, Dz.some_some, Dz.two_eq, List.length_cons, List.length_nil, List.map_cons, List.map_nil, List.append_nil, List.cons_append, List.nil_append, Nat.reduceAdd, Nat.reduceSub, Nat.reduceLeDiff, Nat.zero_add, Int.toNat_natCast, if_true, if_false, Bool.false_eq_true, Bool.not_true, Bool.not_false, true_and, and_true, ite_true, ite_false, isi_non_int, isi_non_bool, isi_non_str, isi_non_tuple, isi_non_list, isi_non_dict, isi_bl_int, isi_bl_bool, isi_bl_str, isi_bl_tuple, isi_bl_list, isi_bl_dict, isi_int_int, isi_int_bool, isi_int_str, isi_int_tuple, isi_int_list, isi_int_dict, isi_str_int, isi_str_bool, isi_str_str, isi_str_tuple, isi_str_list, isi_str_dict, isi_tup_int, isi_tup_bool, isi_tup_str, isi_tup_tuple, isi_tup_list, isi_tup_dict, isi_lst_int, isi_lst_bool, isi_lst_str, isi_lst_tuple, isi_lst_list, isi_lst_dict, isi_dic_int, isi_dic_bool, isi_dic_str, isi_dic_tuple, isi_dic_list, isi_dic_dict]; exact q
theorem isday {d : D} (h : Sm d) (Q : D → Prop) (q : Q (.bl (iw 0 1000000000 d))) : m_is_day [d] Q := by
  unfold m_is_day
  simp -implicitDefEqProofs only [Dz.e_rng1, Dz.e_rngQ, Dz.e_seq, Dz.e_next, Dz.e_brk, Dz.e_cont, Dz.e_drop, Dz.e_ifS, Dz.e_asg, Dz.e_par, Dz.e_ret, Dz.e_retN, Dz.e_for, Dz.e_run1, Dz.e_run2, Dz.e_run3, Dz.e_run4, Dz.e_run5, Dz.e_run6, Dz.e_run7, Dz.e_run8, Dz.e_rep0, Dz.e_rep1, Dz.e_rep2, Dz.e_rep3, Dz.e_rep4, Dz.e_rep5, Dz.e_rep6, Dz.e_rep7, Dz.e_rep8, Dz.e_rep9, Dz.e_rep10, Dz.e_rep11, Dz.e_rep12, Dz.e_rep13, Dz.e_rep14, Dz.e_rep15, Dz.e_rep16, Dz.e_rep17, Dz.e_rep18, Dz.e_rep19, Dz.e_rep20, Dz.e_rep21, Dz.e_rep22, Dz.e_rep23, Dz.e_rep24, Dz.e_rep25, Dz.e_v0, Dz.e_s0, Dz.e_v1, Dz.e_s1, Dz.e_v2, Dz.e_s2, Dz.e_v3, Dz.e_s3, Dz.e_v4, Dz.e_s4, Dz.e_v5, Dz.e_s5, Dz.e_v6, Dz.e_s6, Dz.e_v7, Dz.e_s7, Dz.e_v8, Dz.e_s8, Dz.e_v9, Dz.e_s9, Dz.e_v10, Dz.e_s10, Dz.e_v11, Dz.e_s11, Dz.e_v12, Dz.e_s12, Dz.e_v13, Dz.e_s13, Dz.e_v14, Dz.e_s14, Dz.e_v15, Dz.e_s15, Dz.e_v16, Dz.e_s16, Dz.e_v17, Dz.e_s17, Dz.e_v18, Dz.e_s18, Dz.e_v19, Dz.e_s19, Dz.e_v20, Dz.e_s20, Dz.e_v21, Dz.e_s21, Dz.e_v22, Dz.e_s22, Dz.e_v23, Dz.e_s23, Dz.e_v24, Dz.e_s24, Dz.e_v25, Dz.e_s25, Dz.e_c, Dz.e_bin, Dz.e_un, Dz.e_test, Dz.e_tru, Dz.e_and, Dz.e_or, Dz.e_not, Dz.e_yes, Dz.e_andV, Dz.e_orV, Dz.e_notV, Dz.e_orT, Dz.e_andT, Dz.e_if, Dz.e_nil, Dz.e_cons, Dz.e_tup, Dz.e_lst, Dz.e_call, Dz.e_fn, Dz.e_chain, Dz.e_noP, Dz.e_part, Dz.e_sl, Dz.e_m1, Dz.e_m0, Dz.e_gv, Dz.e_gt, Dz.e_gc, Dz.e_gn, Dz.e_lc, Dz.e_w0, Dz.e_w1, Dz.e_list, Dz.e_tupI, Dz.e_strI, Dz.tru_bl, Dz.tru_int, Dz.tru_lst, Dz.tru_tup, Dz.tru_str, Dz.len_lst, Dz.len_tup, Dz.len_str, Dz.add_int', Dz.sub_int', Dz.lt_int', Dz.le_int', Dz.gt_int', Dz.ge_int', Dz.eq_int', Dz.ne_int', Dz.eq_str', Dz.ne_str', Dz.asBl_bl, Dz.asStr_str, Dz.asInt_int, Dz.asLst_lst, Dz.asTup_tup, Dz.add_str', Dz.add_lst', Dz.add_tup', Dz.mul_int', Dz.mul_str', Dz.mod_int'', Dz.div_int', Dz.ix_lst', Dz.ix_tup', Dz.ix_str', Dz.sl_lst', Dz.sl_tup', Dz.sl_str', Dz.neg_int', Dz.at0, Dz.at1, Dz.at2, Dz.at3, Dz.at4, Dz.at5, Dz.at6, Dz.at7, Dz.int_int', Dz.int_bl', Dz.tupF_lst, Dz.tupF_tup, Dz.lstF_lst, Dz.lstF_tup, Dz.is_bl', Dz.not_bl', Dz.take_eq, Dz.some_some, Dz.two_eq, List.length_cons, List.length_nil, List.map_cons, List.map_nil, List.append_nil, List.cons_append, List.nil_append, Nat.reduceAdd, Nat.reduceSub, Nat.reduceLeDiff, Nat.zero_add, Int.toNat_natCast, if_true, if_false, Bool.false_eq_true, Bool.not_true, Bool.not_false, true_and, and_true, ite_true, ite_false, isi_non_int, isi_non_bool, isi_non_str, isi_non_tuple, isi_non_list, isi_non_dict, isi_bl_int, isi_bl_bool, isi_bl_str, isi_bl_tuple, isi_bl_list, isi_bl_dict, isi_int_int, isi_int_bool, isi_int_str, isi_int_tuple, isi_int_list, isi_int_dict, isi_str_int, isi_str_bool, isi_str_str, isi_str_tuple, isi_str_list, isi_str_dict, isi_tup_int, isi_tup_bool, isi_tup_str, isi_tup_tuple, isi_tup_list, isi_tup_dict, isi_lst_int, isi_lst_bool, isi_lst_str, isi_lst_tuple, isi_lst_list, isi_lst_dict, isi_dic_int, isi_dic_bool, isi_dic_str, isi_dic_tuple, isi_dic_list, isi_dic_dict]
  refine isint h _ ?_
  cases d with
  | int i =>
    unfold isI; simp -implicitDefEqProofs only [Dz.e_rng1, Dz.e_rngQ, Dz.e_seq, Dz.e_next, Dz.e_brk, Dz.e_cont, Dz.e_drop, Dz.e_ifS, Dz.e_asg, Dz.e_par, Dz.e_ret, Dz.e_retN, Dz.e_for, Dz.e_run1, Dz.e_run2, Dz.e_run3, Dz.e_run4, Dz.e_run5, Dz.e_run6, Dz.e_run7, Dz.e_run8, Dz.e_rep0, Dz.e_rep1, Dz.e_rep2, Dz.e_rep3, Dz.e_rep4, Dz.e_rep5, Dz.e_rep6, Dz.e_rep7, Dz.e_rep8, Dz.e_rep9, Dz.e_rep10, Dz.e_rep11, Dz.e_rep12, Dz.e_rep13, Dz.e_rep14, Dz.e_rep15, Dz.e_rep16, Dz.e_rep17, Dz.e_rep18, Dz.e_rep19, Dz.e_rep20, Dz.e_rep21, Dz.e_rep22, Dz.e_rep23, Dz.e_rep24, Dz.e_rep25, Dz.e_v0, Dz.e_s0, Dz.e_v1, Dz.e_s1, Dz.e_v2, Dz.e_s2, Dz.e_v3, Dz.e_s3, Dz.e_v4, Dz.e_s4, Dz.e_v5, Dz.e_s5, Dz.e_v6, Dz.e_s6, Dz.e_v7, Dz.e_s7, Dz.e_v8, Dz.e_s8, Dz.e_v9, Dz.e_s9, Dz.e_v10, Dz.e_s10, Dz.e_v11, Dz.e_s11, Dz.e_v12, Dz.e_s12, Dz.e_v13, Dz.e_s13, Dz.e_v14, Dz.e_s14, Dz.e_v15, Dz.e_s15, Dz.e_v16, Dz.e_s16, Dz.e_v17, Dz.e_s17, Dz.e_v18, Dz.e_s18, Dz.e_v19, Dz.e_s19, Dz.e_v20, Dz.e_s20, Dz.e_v21, Dz.e_s21, Dz.e_v22, Dz.e_s22, Dz.e_v23, Dz.e_s23, Dz.e_v24, Dz.e_s24, Dz.e_v25, Dz.e_s25, Dz.e_c, Dz.e_bin, Dz.e_un, Dz.e_test, Dz.e_tru, Dz.e_and, Dz.e_or, Dz.e_not, Dz.e_yes, Dz.e_andV, Dz.e_orV, Dz.e_notV, Dz.e_orT, Dz.e_andT, Dz.e_if, Dz.e_nil, Dz.e_cons, Dz.e_tup, Dz.e_lst, Dz.e_call, Dz.e_fn, Dz.e_chain, Dz.e_noP, Dz.e_part, Dz.e_sl, Dz.e_m1, Dz.e_m0, Dz.e_gv, Dz.e_gt, Dz.e_gc, Dz.e_gn, Dz.e_lc, Dz.e_w0, Dz.e_w1, Dz.e_list, Dz.e_tupI, Dz.e_strI, Dz.tru_bl, Dz.tru_int, Dz.tru_lst, Dz.tru_tup, Dz.tru_str, Dz.len_lst, Dz.len_tup, Dz.len_str, Dz.add_int', Dz.sub_int', Dz.lt_int', Dz.le_int', Dz.gt_int', Dz.ge_int', Dz.eq_int', Dz.ne_int', Dz.eq_str', Dz.ne_str', Dz.asBl_bl, Dz.asStr_str, Dz.asInt_int, Dz.asLst_lst, Dz.asTup_tup, Dz.add_str', Dz.add_lst', Dz.add_tup', Dz.mul_int', Dz.mul_str', Dz.mod_int'', Dz.div_int', Dz.ix_lst', Dz.ix_tup', Dz.ix_str', Dz.sl_lst', Dz.sl_tup', Dz.sl_str', Dz.neg_int', Dz.at0, Dz.at1, Dz.at2, Dz.at3, Dz.at4, Dz.at5, Dz.at6, Dz.at7, Dz.int_int', Dz.int_bl', Dz.tupF_lst, Dz.tupF_tup, Dz.lstF_lst, Dz.lstF_tup, Dz.is_bl', Dz.not_bl', Dz.take_eq, Dz.some_some, Dz.two_eq, List.length_cons, List.length_nil, List.map_cons, List.map_nil, List.append_nil, List.cons_append, List.nil_append, Nat.reduceAdd, Nat.reduceSub, Nat.reduceLeDiff, Nat.zero_add, Int.toNat_natCast, if_true, if_false, Bool.false_eq_true, Bool.not_true, Bool.not_false, true_and, and_true, ite_true, ite_false, isi_non_int, isi_non_bool, isi_non_str, isi_non_tuple, isi_non_list, isi_non_dict, isi_bl_int, isi_bl_bool, isi_bl_str, isi_bl_tuple, isi_bl_list, isi_bl_dict, isi_int_int, isi_int_bool, isi_int_str, isi_int_tuple, isi_int_list, isi_int_dict, isi_str_int, isi_str_bool, isi_str_str, isi_str_tuple, isi_str_list, isi_str_dict, isi_tup_int, isi_tup_bool, isi_tup_str, isi_tup_tuple, isi_tup_list, isi_tup_dict, isi_lst_int, isi_lst_bool, isi_lst_str, isi_lst_tuple, isi_lst_list, isi_lst_dict, isi_dic_int, isi_dic_bool, isi_dic_str, isi_dic_tuple, isi_dic_list, isi_dic_dict]
    replace q : Q (.bl (decide (0 ≤ i) && decide (i ≤ 1000000000))) := q
    by_cases c : 0 ≤ i
    · rw [if_pos (decide_eq_true c)]
      rw [decide_eq_true c, Bool.true_and] at q; exact q
    · rw [if_neg (by simpa using c)]
      rw [decide_eq_false c, Bool.false_and] at q; exact q
  | _ => unfold isI; simp -implicitDefEqProofs only [Dz.e_rng1, Dz.e_rngQ, Dz.e_seq, Dz.e_next, Dz.e_brk, Dz.e_cont, Dz.e_drop, Dz.e_ifS, Dz.e_asg, Dz.e_par, Dz.e_ret, Dz.e_retN, Dz.e_for, Dz.e_run1, Dz.e_run2, Dz.e_run3, Dz.e_run4, Dz.e_run5, Dz.e_run6, Dz.e_run7, Dz.e_run8, Dz.e_rep0, Dz.e_rep1, Dz.e_rep2, Dz.e_rep3, Dz.e_rep4, Dz.e_rep5, Dz.e_rep6, Dz.e_rep7, Dz.e_rep8, Dz.e_rep9, Dz.e_rep10, Dz.e_rep11, Dz.e_rep12, Dz.e_rep13, Dz.e_rep14, Dz.e_rep15, Dz.e_rep16, Dz.e_rep17, Dz.e_rep18, Dz.e_rep19, Dz.e_rep20, Dz.e_rep21, Dz.e_rep22, Dz.e_rep23, Dz.e_rep24, Dz.e_rep25, Dz.e_v0, Dz.e_s0, Dz.e_v1, Dz.e_s1, Dz.e_v2, Dz.e_s2, Dz.e_v3, Dz.e_s3, Dz.e_v4, Dz.e_s4, Dz.e_v5, Dz.e_s5, Dz.e_v6, Dz.e_s6, Dz.e_v7, Dz.e_s7, Dz.e_v8, Dz.e_s8, Dz.e_v9, Dz.e_s9, Dz.e_v10, Dz.e_s10, Dz.e_v11, Dz.e_s11, Dz.e_v12, Dz.e_s12, Dz.e_v13, Dz.e_s13, Dz.e_v14, Dz.e_s14, Dz.e_v15, Dz.e_s15, Dz.e_v16, Dz.e_s16, Dz.e_v17, Dz.e_s17, Dz.e_v18, Dz.e_s18, Dz.e_v19, Dz.e_s19, Dz.e_v20, Dz.e_s20, Dz.e_v21, Dz.e_s21, Dz.e_v22, Dz.e_s22, Dz.e_v23, Dz.e_s23, Dz.e_v24, Dz.e_s24, Dz.e_v25, Dz.e_s25, Dz.e_c, Dz.e_bin, Dz.e_un, Dz.e_test, Dz.e_tru, Dz.e_and, Dz.e_or, Dz.e_not, Dz.e_yes, Dz.e_andV, Dz.e_orV, Dz.e_notV, Dz.e_orT, Dz.e_andT, Dz.e_if, Dz.e_nil, Dz.e_cons, Dz.e_tup, Dz.e_lst, Dz.e_call, Dz.e_fn, Dz.e_chain, Dz.e_noP, Dz.e_part, Dz.e_sl, Dz.e_m1, Dz.e_m0, Dz.e_gv, Dz.e_gt, Dz.e_gc, Dz.e_gn, Dz.e_lc, Dz.e_w0, Dz.e_w1, Dz.e_list, Dz.e_tupI, Dz.e_strI, Dz.tru_bl, Dz.tru_int, Dz.tru_lst, Dz.tru_tup, Dz.tru_str, Dz.len_lst, Dz.len_tup, Dz.len_str, Dz.add_int', Dz.sub_int', Dz.lt_int', Dz.le_int', Dz.gt_int', Dz.ge_int', Dz.eq_int', Dz.ne_int', Dz.eq_str', Dz.ne_str', Dz.asBl_bl, Dz.asStr_str, Dz.asInt_int, Dz.asLst_lst, Dz.asTup_tup, Dz.add_str', Dz.add_lst', Dz.add_tup', Dz.mul_int', Dz.mul_str', Dz.mod_int'', Dz.div_int', Dz.ix_lst', Dz.ix_tup', Dz.ix_str', Dz.sl_lst', Dz.sl_tup', Dz.sl_str', Dz.neg_int', Dz.at0, Dz.at1, Dz.at2, Dz.at3, Dz.at4, Dz.at5, Dz.at6, Dz.at7, Dz.int_int', Dz.int_bl', Dz.tupF_lst, Dz.tupF_tup, Dz.lstF_lst, Dz.lstF_tup, Dz.is_bl', Dz.not_bl', Dz.take_eq, Dz.some_some, Dz.two_eq, List.length_cons, List.length_nil, List.map_cons, List.map_nil, List.append_nil, List.cons_append, List.nil_append, Nat.reduceAdd, Nat.reduceSub, Nat.reduceLeDiff, Nat.zero_add, Int.toNat_natCast, if_true, if_false, Bool.false_eq_true, Bool.not_true, Bool.not_false, true_and, and_true, ite_true, ite_false, isi_non_int, isi_non_bool, isi_non_str, isi_non_tuple, isi_non_list, isi_non_dict, isi_bl_int, isi_bl_bool, isi_bl_str, isi_bl_tuple, isi_bl_list, isi_bl_dict, isi_int_int, isi_int_bool, isi_int_str, isi_int_tuple, isi_int_list, isi_int_dict, isi_str_int, isi_str_bool, isi_str_str, isi_str_tuple, isi_str_list, isi_str_dict, isi_tup_int, isi_tup_bool, isi_tup_str, isi_tup_tuple, isi_tup_list, isi_tup_dict, isi_lst_int, isi_lst_bool, isi_lst_str, isi_lst_tuple, isi_lst_list, isi_lst_dict, isi_dic_int, isi_dic_bool, isi_dic_str, isi_dic_tuple, isi_dic_list, isi_dic_dict]; exact q
theorem iscount {d : D} (h : Sm d) (Q : D → Prop) (q : Q (.bl (ct d))) : m_is_count [d] Q := by
  unfold m_is_count
  simp -implicitDefEqProofs only [Dz.e_rng1, Dz.e_rngQ, Dz.e_seq, Dz.e_next, Dz.e_brk, Dz.e_cont, Dz.e_drop, Dz.e_ifS, Dz.e_asg, Dz.e_par, Dz.e_ret, Dz.e_retN, Dz.e_for, Dz.e_run1, Dz.e_run2, Dz.e_run3, Dz.e_run4, Dz.e_run5, Dz.e_run6, Dz.e_run7, Dz.e_run8, Dz.e_rep0, Dz.e_rep1, Dz.e_rep2, Dz.e_rep3, Dz.e_rep4, Dz.e_rep5, Dz.e_rep6, Dz.e_rep7, Dz.e_rep8, Dz.e_rep9, Dz.e_rep10, Dz.e_rep11, Dz.e_rep12, Dz.e_rep13, Dz.e_rep14, Dz.e_rep15, Dz.e_rep16, Dz.e_rep17, Dz.e_rep18, Dz.e_rep19, Dz.e_rep20, Dz.e_rep21, Dz.e_rep22, Dz.e_rep23, Dz.e_rep24, Dz.e_rep25, Dz.e_v0, Dz.e_s0, Dz.e_v1, Dz.e_s1, Dz.e_v2, Dz.e_s2, Dz.e_v3, Dz.e_s3, Dz.e_v4, Dz.e_s4, Dz.e_v5, Dz.e_s5, Dz.e_v6, Dz.e_s6, Dz.e_v7, Dz.e_s7, Dz.e_v8, Dz.e_s8, Dz.e_v9, Dz.e_s9, Dz.e_v10, Dz.e_s10, Dz.e_v11, Dz.e_s11, Dz.e_v12, Dz.e_s12, Dz.e_v13, Dz.e_s13, Dz.e_v14, Dz.e_s14, Dz.e_v15, Dz.e_s15, Dz.e_v16, Dz.e_s16, Dz.e_v17, Dz.e_s17, Dz.e_v18, Dz.e_s18, Dz.e_v19, Dz.e_s19, Dz.e_v20, Dz.e_s20, Dz.e_v21, Dz.e_s21, Dz.e_v22, Dz.e_s22, Dz.e_v23, Dz.e_s23, Dz.e_v24, Dz.e_s24, Dz.e_v25, Dz.e_s25, Dz.e_c, Dz.e_bin, Dz.e_un, Dz.e_test, Dz.e_tru, Dz.e_and, Dz.e_or, Dz.e_not, Dz.e_yes, Dz.e_andV, Dz.e_orV, Dz.e_notV, Dz.e_orT, Dz.e_andT, Dz.e_if, Dz.e_nil, Dz.e_cons, Dz.e_tup, Dz.e_lst, Dz.e_call, Dz.e_fn, Dz.e_chain, Dz.e_noP, Dz.e_part, Dz.e_sl, Dz.e_m1, Dz.e_m0, Dz.e_gv, Dz.e_gt, Dz.e_gc, Dz.e_gn, Dz.e_lc, Dz.e_w0, Dz.e_w1, Dz.e_list, Dz.e_tupI, Dz.e_strI, Dz.tru_bl, Dz.tru_int, Dz.tru_lst, Dz.tru_tup, Dz.tru_str, Dz.len_lst, Dz.len_tup, Dz.len_str, Dz.add_int', Dz.sub_int', Dz.lt_int', Dz.le_int', Dz.gt_int', Dz.ge_int', Dz.eq_int', Dz.ne_int', Dz.eq_str', Dz.ne_str', Dz.asBl_bl, Dz.asStr_str, Dz.asInt_int, Dz.asLst_lst, Dz.asTup_tup, Dz.add_str', Dz.add_lst', Dz.add_tup', Dz.mul_int', Dz.mul_str', Dz.mod_int'', Dz.div_int', Dz.ix_lst', Dz.ix_tup', Dz.ix_str', Dz.sl_lst', Dz.sl_tup', Dz.sl_str', Dz.neg_int', Dz.at0, Dz.at1, Dz.at2, Dz.at3, Dz.at4, Dz.at5, Dz.at6, Dz.at7, Dz.int_int', Dz.int_bl', Dz.tupF_lst, Dz.tupF_tup, Dz.lstF_lst, Dz.lstF_tup, Dz.is_bl', Dz.not_bl', Dz.take_eq, Dz.some_some, Dz.two_eq, List.length_cons, List.length_nil, List.map_cons, List.map_nil, List.append_nil, List.cons_append, List.nil_append, Nat.reduceAdd, Nat.reduceSub, Nat.reduceLeDiff, Nat.zero_add, Int.toNat_natCast, if_true, if_false, Bool.false_eq_true, Bool.not_true, Bool.not_false, true_and, and_true, ite_true, ite_false, isi_non_int, isi_non_bool, isi_non_str, isi_non_tuple, isi_non_list, isi_non_dict, isi_bl_int, isi_bl_bool, isi_bl_str, isi_bl_tuple, isi_bl_list, isi_bl_dict, isi_int_int, isi_int_bool, isi_int_str, isi_int_tuple, isi_int_list, isi_int_dict, isi_str_int, isi_str_bool, isi_str_str, isi_str_tuple, isi_str_list, isi_str_dict, isi_tup_int, isi_tup_bool, isi_tup_str, isi_tup_tuple, isi_tup_list, isi_tup_dict, isi_lst_int, isi_lst_bool, isi_lst_str, isi_lst_tuple, isi_lst_list, isi_lst_dict, isi_dic_int, isi_dic_bool, isi_dic_str, isi_dic_tuple, isi_dic_list, isi_dic_dict, is_non]
  unfold ct at q
  by_cases n : isNone d = true
  · rw [if_pos n]; rw [n] at q; exact q
  · rw [if_neg n]
    rw [Bool.eq_false_iff.mpr n, Bool.false_or] at q
    refine isint h _ ?_
    cases d with
    | int i =>
      unfold isI; simp -implicitDefEqProofs only [Dz.e_rng1, Dz.e_rngQ, Dz.e_seq, Dz.e_next, Dz.e_brk, Dz.e_cont, Dz.e_drop, Dz.e_ifS, Dz.e_asg, Dz.e_par, Dz.e_ret, Dz.e_retN, Dz.e_for, Dz.e_run1, Dz.e_run2, Dz.e_run3, Dz.e_run4, Dz.e_run5, Dz.e_run6, Dz.e_run7, Dz.e_run8, Dz.e_rep0, Dz.e_rep1, Dz.e_rep2, Dz.e_rep3, Dz.e_rep4, Dz.e_rep5, Dz.e_rep6, Dz.e_rep7, Dz.e_rep8, Dz.e_rep9, Dz.e_rep10, Dz.e_rep11, Dz.e_rep12, Dz.e_rep13, Dz.e_rep14, Dz.e_rep15, Dz.e_rep16, Dz.e_rep17, Dz.e_rep18, Dz.e_rep19, Dz.e_rep20, Dz.e_rep21, Dz.e_rep22, Dz.e_rep23, Dz.e_rep24, Dz.e_rep25, Dz.e_v0, Dz.e_s0, Dz.e_v1, Dz.e_s1, Dz.e_v2, Dz.e_s2, Dz.e_v3, Dz.e_s3, Dz.e_v4, Dz.e_s4, Dz.e_v5, Dz.e_s5, Dz.e_v6, Dz.e_s6, Dz.e_v7, Dz.e_s7, Dz.e_v8, Dz.e_s8, Dz.e_v9, Dz.e_s9, Dz.e_v10, Dz.e_s10, Dz.e_v11, Dz.e_s11, Dz.e_v12, Dz.e_s12, Dz.e_v13, Dz.e_s13, Dz.e_v14, Dz.e_s14, Dz.e_v15, Dz.e_s15, Dz.e_v16, Dz.e_s16, Dz.e_v17, Dz.e_s17, Dz.e_v18, Dz.e_s18, Dz.e_v19, Dz.e_s19, Dz.e_v20, Dz.e_s20, Dz.e_v21, Dz.e_s21, Dz.e_v22, Dz.e_s22, Dz.e_v23, Dz.e_s23, Dz.e_v24, Dz.e_s24, Dz.e_v25, Dz.e_s25, Dz.e_c, Dz.e_bin, Dz.e_un, Dz.e_test, Dz.e_tru, Dz.e_and, Dz.e_or, Dz.e_not, Dz.e_yes, Dz.e_andV, Dz.e_orV, Dz.e_notV, Dz.e_orT, Dz.e_andT, Dz.e_if, Dz.e_nil, Dz.e_cons, Dz.e_tup, Dz.e_lst, Dz.e_call, Dz.e_fn, Dz.e_chain, Dz.e_noP, Dz.e_part, Dz.e_sl, Dz.e_m1, Dz.e_m0, Dz.e_gv, Dz.e_gt, Dz.e_gc, Dz.e_gn, Dz.e_lc, Dz.e_w0, Dz.e_w1, Dz.e_list, Dz.e_tupI, Dz.e_strI, Dz.tru_bl, Dz.tru_int, Dz.tru_lst, Dz.tru_tup, Dz.tru_str, Dz.len_lst, Dz.len_tup, Dz.len_str, Dz.add_int', Dz.sub_int', Dz.lt_int', Dz.le_int', Dz.gt_int', Dz.ge_int', Dz.eq_int', Dz.ne_int', Dz.eq_str', Dz.ne_str', Dz.asBl_bl, Dz.asStr_str, Dz.asInt_int, Dz.asLst_lst, Dz.asTup_tup, Dz.add_str', Dz.add_lst', Dz.add_tup', Dz.mul_int', Dz.mul_str', Dz.mod_int'', Dz.div_int', Dz.ix_lst', Dz.ix_tup', Dz.ix_str', Dz.sl_lst', Dz.sl_tup', Dz.sl_str', Dz.neg_int', Dz.at0, Dz.at1, Dz.at2, Dz.at3, Dz.at4, Dz.at5, Dz.at6, Dz.at7, Dz.int_int', Dz.int_bl', Dz.tupF_lst, Dz.tupF_tup, Dz.lstF_lst, Dz.lstF_tup, Dz.is_bl', Dz.not_bl', Dz.take_eq, Dz.some_some, Dz.two_eq, List.length_cons, List.length_nil, List.map_cons, List.map_nil, List.append_nil, List.cons_append, List.nil_append, Nat.reduceAdd, Nat.reduceSub, Nat.reduceLeDiff, Nat.zero_add, Int.toNat_natCast, if_true, if_false, Bool.false_eq_true, Bool.not_true, Bool.not_false, true_and, and_true, ite_true, ite_false, isi_non_int, isi_non_bool, isi_non_str, isi_non_tuple, isi_non_list, isi_non_dict, isi_bl_int, isi_bl_bool, isi_bl_str, isi_bl_tuple, isi_bl_list, isi_bl_dict, isi_int_int, isi_int_bool, isi_int_str, isi_int_tuple, isi_int_list, isi_int_dict, isi_str_int, isi_str_bool, isi_str_str, isi_str_tuple, isi_str_list, isi_str_dict, isi_tup_int, isi_tup_bool, isi_tup_str, isi_tup_tuple, isi_tup_list, isi_tup_dict, isi_lst_int, isi_lst_bool, isi_lst_str, isi_lst_tuple, isi_lst_list, isi_lst_dict, isi_dic_int, isi_dic_bool, isi_dic_str, isi_dic_tuple, isi_dic_list, isi_dic_dict]
      replace q : Q (.bl (decide (0 ≤ i) && decide (i ≤ 8))) := q
      by_cases c : 0 ≤ i
      · rw [if_pos (decide_eq_true c)]
        rw [decide_eq_true c, Bool.true_and] at q; exact q
      · rw [if_neg (by simpa using c)]
        rw [decide_eq_false c, Bool.false_and] at q; exact q
    | _ => unfold isI; simp -implicitDefEqProofs only [Dz.e_rng1, Dz.e_rngQ, Dz.e_seq, Dz.e_next, Dz.e_brk, Dz.e_cont, Dz.e_drop, Dz.e_ifS, Dz.e_asg, Dz.e_par, Dz.e_ret, Dz.e_retN, Dz.e_for, Dz.e_run1, Dz.e_run2, Dz.e_run3, Dz.e_run4, Dz.e_run5, Dz.e_run6, Dz.e_run7, Dz.e_run8, Dz.e_rep0, Dz.e_rep1, Dz.e_rep2, Dz.e_rep3, Dz.e_rep4, Dz.e_rep5, Dz.e_rep6, Dz.e_rep7, Dz.e_rep8, Dz.e_rep9, Dz.e_rep10, Dz.e_rep11, Dz.e_rep12, Dz.e_rep13, Dz.e_rep14, Dz.e_rep15, Dz.e_rep16, Dz.e_rep17, Dz.e_rep18, Dz.e_rep19, Dz.e_rep20, Dz.e_rep21, Dz.e_rep22, Dz.e_rep23, Dz.e_rep24, Dz.e_rep25, Dz.e_v0, Dz.e_s0, Dz.e_v1, Dz.e_s1, Dz.e_v2, Dz.e_s2, Dz.e_v3, Dz.e_s3, Dz.e_v4, Dz.e_s4, Dz.e_v5, Dz.e_s5, Dz.e_v6, Dz.e_s6, Dz.e_v7, Dz.e_s7, Dz.e_v8, Dz.e_s8, Dz.e_v9, Dz.e_s9, Dz.e_v10, Dz.e_s10, Dz.e_v11, Dz.e_s11, Dz.e_v12, Dz.e_s12, Dz.e_v13, Dz.e_s13, Dz.e_v14, Dz.e_s14, Dz.e_v15, Dz.e_s15, Dz.e_v16, Dz.e_s16, Dz.e_v17, Dz.e_s17, Dz.e_v18, Dz.e_s18, Dz.e_v19, Dz.e_s19, Dz.e_v20, Dz.e_s20, Dz.e_v21, Dz.e_s21, Dz.e_v22, Dz.e_s22, Dz.e_v23, Dz.e_s23, Dz.e_v24, Dz.e_s24, Dz.e_v25, Dz.e_s25, Dz.e_c, Dz.e_bin, Dz.e_un, Dz.e_test, Dz.e_tru, Dz.e_and, Dz.e_or, Dz.e_not, Dz.e_yes, Dz.e_andV, Dz.e_orV, Dz.e_notV, Dz.e_orT, Dz.e_andT, Dz.e_if, Dz.e_nil, Dz.e_cons, Dz.e_tup, Dz.e_lst, Dz.e_call, Dz.e_fn, Dz.e_chain, Dz.e_noP, Dz.e_part, Dz.e_sl, Dz.e_m1, Dz.e_m0, Dz.e_gv, Dz.e_gt, Dz.e_gc, Dz.e_gn, Dz.e_lc, Dz.e_w0, Dz.e_w1, Dz.e_list, Dz.e_tupI, Dz.e_strI, Dz.tru_bl, Dz.tru_int, Dz.tru_lst, Dz.tru_tup, Dz.tru_str, Dz.len_lst, Dz.len_tup, Dz.len_str, Dz.add_int', Dz.sub_int', Dz.lt_int', Dz.le_int', Dz.gt_int', Dz.ge_int', Dz.eq_int', Dz.ne_int', Dz.eq_str', Dz.ne_str', Dz.asBl_bl, Dz.asStr_str, Dz.asInt_int, Dz.asLst_lst, Dz.asTup_tup, Dz.add_str', Dz.add_lst', Dz.add_tup', Dz.mul_int', Dz.mul_str', Dz.mod_int'', Dz.div_int', Dz.ix_lst', Dz.ix_tup', Dz.ix_str', Dz.sl_lst', Dz.sl_tup', Dz.sl_str', Dz.neg_int', Dz.at0, Dz.at1, Dz.at2, Dz.at3, Dz.at4, Dz.at5, Dz.at6, Dz.at7, Dz.int_int', Dz.int_bl', Dz.tupF_lst, Dz.tupF_tup, Dz.lstF_lst, Dz.lstF_tup, Dz.is_bl', Dz.not_bl', Dz.take_eq, Dz.some_some, Dz.two_eq, List.length_cons, List.length_nil, List.map_cons, List.map_nil, List.append_nil, List.cons_append, List.nil_append, Nat.reduceAdd, Nat.reduceSub, Nat.reduceLeDiff, Nat.zero_add, Int.toNat_natCast, if_true, if_false, Bool.false_eq_true, Bool.not_true, Bool.not_false, true_and, and_true, ite_true, ite_false, isi_non_int, isi_non_bool, isi_non_str, isi_non_tuple, isi_non_list, isi_non_dict, isi_bl_int, isi_bl_bool, isi_bl_str, isi_bl_tuple, isi_bl_list, isi_bl_dict, isi_int_int, isi_int_bool, isi_int_str, isi_int_tuple, isi_int_list, isi_int_dict, isi_str_int, isi_str_bool, isi_str_str, isi_str_tuple, isi_str_list, isi_str_dict, isi_tup_int, isi_tup_bool, isi_tup_str, isi_tup_tuple, isi_tup_list, isi_tup_dict, isi_lst_int, isi_lst_bool, isi_lst_str, isi_lst_tuple, isi_lst_list, isi_lst_dict, isi_dic_int, isi_dic_bool, isi_dic_str, isi_dic_tuple, isi_dic_list, isi_dic_dict]; exact q
theorem lcouple {d : D} (h : Sm d) (Q : D → Prop) (q : Q (.bl (cp d))) : m__law_is_couple [d] Q := by
  cases d with
  | tup xs =>
    unfold m__law_is_couple; simp -implicitDefEqProofs only [Dz.e_rng1, Dz.e_rngQ, Dz.e_seq, Dz.e_next, Dz.e_brk, Dz.e_cont, Dz.e_drop, Dz.e_ifS, Dz.e_asg, Dz.e_par, Dz.e_ret, Dz.e_retN, Dz.e_for, Dz.e_run1, Dz.e_run2, Dz.e_run3, Dz.e_run4, Dz.e_run5, Dz.e_run6, Dz.e_run7, Dz.e_run8, Dz.e_rep0, Dz.e_rep1, Dz.e_rep2, Dz.e_rep3, Dz.e_rep4, Dz.e_rep5, Dz.e_rep6, Dz.e_rep7, Dz.e_rep8, Dz.e_rep9, Dz.e_rep10, Dz.e_rep11, Dz.e_rep12, Dz.e_rep13, Dz.e_rep14, Dz.e_rep15, Dz.e_rep16, Dz.e_rep17, Dz.e_rep18, Dz.e_rep19, Dz.e_rep20, Dz.e_rep21, Dz.e_rep22, Dz.e_rep23, Dz.e_rep24, Dz.e_rep25, Dz.e_v0, Dz.e_s0, Dz.e_v1, Dz.e_s1, Dz.e_v2, Dz.e_s2, Dz.e_v3, Dz.e_s3, Dz.e_v4, Dz.e_s4, Dz.e_v5, Dz.e_s5, Dz.e_v6, Dz.e_s6, Dz.e_v7, Dz.e_s7, Dz.e_v8, Dz.e_s8, Dz.e_v9, Dz.e_s9, Dz.e_v10, Dz.e_s10, Dz.e_v11, Dz.e_s11, Dz.e_v12, Dz.e_s12, Dz.e_v13, Dz.e_s13, Dz.e_v14, Dz.e_s14, Dz.e_v15, Dz.e_s15, Dz.e_v16, Dz.e_s16, Dz.e_v17, Dz.e_s17, Dz.e_v18, Dz.e_s18, Dz.e_v19, Dz.e_s19, Dz.e_v20, Dz.e_s20, Dz.e_v21, Dz.e_s21, Dz.e_v22, Dz.e_s22, Dz.e_v23, Dz.e_s23, Dz.e_v24, Dz.e_s24, Dz.e_v25, Dz.e_s25, Dz.e_c, Dz.e_bin, Dz.e_un, Dz.e_test, Dz.e_tru, Dz.e_and, Dz.e_or, Dz.e_not, Dz.e_yes, Dz.e_andV, Dz.e_orV, Dz.e_notV, Dz.e_orT, Dz.e_andT, Dz.e_if, Dz.e_nil, Dz.e_cons, Dz.e_tup, Dz.e_lst, Dz.e_call, Dz.e_fn, Dz.e_chain, Dz.e_noP, Dz.e_part, Dz.e_sl, Dz.e_m1, Dz.e_m0, Dz.e_gv, Dz.e_gt, Dz.e_gc, Dz.e_gn, Dz.e_lc, Dz.e_w0, Dz.e_w1, Dz.e_list, Dz.e_tupI, Dz.e_strI, Dz.tru_bl, Dz.tru_int, Dz.tru_lst, Dz.tru_tup, Dz.tru_str, Dz.len_lst, Dz.len_tup, Dz.len_str, Dz.add_int', Dz.sub_int', Dz.lt_int', Dz.le_int', Dz.gt_int', Dz.ge_int', Dz.eq_int', Dz.ne_int', Dz.eq_str', Dz.ne_str', Dz.asBl_bl, Dz.asStr_str, Dz.asInt_int, Dz.asLst_lst, Dz.asTup_tup, Dz.add_str', Dz.add_lst', Dz.add_tup', Dz.mul_int', Dz.mul_str', Dz.mod_int'', Dz.div_int', Dz.ix_lst', Dz.ix_tup', Dz.ix_str', Dz.sl_lst', Dz.sl_tup', Dz.sl_str', Dz.neg_int', Dz.at0, Dz.at1, Dz.at2, Dz.at3, Dz.at4, Dz.at5, Dz.at6, Dz.at7, Dz.int_int', Dz.int_bl', Dz.tupF_lst, Dz.tupF_tup, Dz.lstF_lst, Dz.lstF_tup, Dz.is_bl', Dz.not_bl', Dz.take_eq, Dz.some_some, Dz.two_eq, List.length_cons, List.length_nil, List.map_cons, List.map_nil, List.append_nil, List.cons_append, List.nil_append, Nat.reduceAdd, Nat.reduceSub, Nat.reduceLeDiff, Nat.zero_add, Int.toNat_natCast, if_true, if_false, Bool.false_eq_true, Bool.not_true, Bool.not_false, true_and, and_true, ite_true, ite_false, isi_non_int, isi_non_bool, isi_non_str, isi_non_tuple, isi_non_list, isi_non_dict, isi_bl_int, isi_bl_bool, isi_bl_str, isi_bl_tuple, isi_bl_list, isi_bl_dict, isi_int_int, isi_int_bool, isi_int_str, isi_int_tuple, isi_int_list, isi_int_dict, isi_str_int, isi_str_bool, isi_str_str, isi_str_tuple, isi_str_list, isi_str_dict, isi_tup_int, isi_tup_bool, isi_tup_str, isi_tup_tuple, isi_tup_list, isi_tup_dict, isi_lst_int, isi_lst_bool, isi_lst_str, isi_lst_tuple, isi_lst_list, isi_lst_dict, isi_dic_int, isi_dic_bool, isi_dic_str, isi_dic_tuple, isi_dic_list, isi_dic_dict, eqG_int]
    have e : ((xs.length : Int) == 2) = (xs.length == 2) := by rw [Bool.eq_iff_iff]; simp; omega
    rw [e]; exact q
  | obj | ty | cls | bag => exact absurd h.1 (by simp [pq, D.pl, D.pd])
  | _ => unfold m__law_is_couple; simp -implicitDefEqProofs only [Dz.e_rng1, Dz.e_rngQ, Dz.e_seq, Dz.e_next, Dz.e_brk, Dz.e_cont, Dz.e_drop, Dz.e_ifS, Dz.e_asg, Dz.e_par, Dz.e_ret, Dz.e_retN, Dz.e_for, Dz.e_run1, Dz.e_run2, Dz.e_run3, Dz.e_run4, Dz.e_run5, Dz.e_run6, Dz.e_run7, Dz.e_run8, Dz.e_rep0, Dz.e_rep1, Dz.e_rep2, Dz.e_rep3, Dz.e_rep4, Dz.e_rep5, Dz.e_rep6, Dz.e_rep7, Dz.e_rep8, Dz.e_rep9, Dz.e_rep10, Dz.e_rep11, Dz.e_rep12, Dz.e_rep13, Dz.e_rep14, Dz.e_rep15, Dz.e_rep16, Dz.e_rep17, Dz.e_rep18, Dz.e_rep19, Dz.e_rep20, Dz.e_rep21, Dz.e_rep22, Dz.e_rep23, Dz.e_rep24, Dz.e_rep25, Dz.e_v0, Dz.e_s0, Dz.e_v1, Dz.e_s1, Dz.e_v2, Dz.e_s2, Dz.e_v3, Dz.e_s3, Dz.e_v4, Dz.e_s4, Dz.e_v5, Dz.e_s5, Dz.e_v6, Dz.e_s6, Dz.e_v7, Dz.e_s7, Dz.e_v8, Dz.e_s8, Dz.e_v9, Dz.e_s9, Dz.e_v10, Dz.e_s10, Dz.e_v11, Dz.e_s11, Dz.e_v12, Dz.e_s12, Dz.e_v13, Dz.e_s13, Dz.e_v14, Dz.e_s14, Dz.e_v15, Dz.e_s15, Dz.e_v16, Dz.e_s16, Dz.e_v17, Dz.e_s17, Dz.e_v18, Dz.e_s18, Dz.e_v19, Dz.e_s19, Dz.e_v20, Dz.e_s20, Dz.e_v21, Dz.e_s21, Dz.e_v22, Dz.e_s22, Dz.e_v23, Dz.e_s23, Dz.e_v24, Dz.e_s24, Dz.e_v25, Dz.e_s25, Dz.e_c, Dz.e_bin, Dz.e_un, Dz.e_test, Dz.e_tru, Dz.e_and, Dz.e_or, Dz.e_not, Dz.e_yes, Dz.e_andV, Dz.e_orV, Dz.e_notV, Dz.e_orT, Dz.e_andT, Dz.e_if, Dz.e_nil, Dz.e_cons, Dz.e_tup, Dz.e_lst, Dz.e_call, Dz.e_fn, Dz.e_chain, Dz.e_noP, Dz.e_part, Dz.e_sl, Dz.e_m1, Dz.e_m0, Dz.e_gv, Dz.e_gt, Dz.e_gc, Dz.e_gn, Dz.e_lc, Dz.e_w0, Dz.e_w1, Dz.e_list, Dz.e_tupI, Dz.e_strI, Dz.tru_bl, Dz.tru_int, Dz.tru_lst, Dz.tru_tup, Dz.tru_str, Dz.len_lst, Dz.len_tup, Dz.len_str, Dz.add_int', Dz.sub_int', Dz.lt_int', Dz.le_int', Dz.gt_int', Dz.ge_int', Dz.eq_int', Dz.ne_int', Dz.eq_str', Dz.ne_str', Dz.asBl_bl, Dz.asStr_str, Dz.asInt_int, Dz.asLst_lst, Dz.asTup_tup, Dz.add_str', Dz.add_lst', Dz.add_tup', Dz.mul_int', Dz.mul_str', Dz.mod_int'', Dz.div_int', Dz.ix_lst', Dz.ix_tup', Dz.ix_str', Dz.sl_lst', Dz.sl_tup', Dz.sl_str', Dz.neg_int', Dz.at0, Dz.at1, Dz.at2, Dz.at3, Dz.at4, Dz.at5, Dz.at6, Dz.at7, Dz.int_int', Dz.int_bl', Dz.tupF_lst, Dz.tupF_tup, Dz.lstF_lst, Dz.lstF_tup, Dz.is_bl', Dz.not_bl', Dz.take_eq, Dz.some_some, Dz.two_eq, List.length_cons, List.length_nil, List.map_cons, List.map_nil, List.append_nil, List.cons_append, List.nil_append, Nat.reduceAdd, Nat.reduceSub, Nat.reduceLeDiff, Nat.zero_add, Int.toNat_natCast, if_true, if_false, Bool.false_eq_true, Bool.not_true, Bool.not_false, true_and, and_true, ite_true, ite_false, isi_non_int, isi_non_bool, isi_non_str, isi_non_tuple, isi_non_list, isi_non_dict, isi_bl_int, isi_bl_bool, isi_bl_str, isi_bl_tuple, isi_bl_list, isi_bl_dict, isi_int_int, isi_int_bool, isi_int_str, isi_int_tuple, isi_int_list, isi_int_dict, isi_str_int, isi_str_bool, isi_str_str, isi_str_tuple, isi_str_list, isi_str_dict, isi_tup_int, isi_tup_bool, isi_tup_str, isi_tup_tuple, isi_tup_list, isi_tup_dict, isi_lst_int, isi_lst_bool, isi_lst_str, isi_lst_tuple, isi_lst_list, isi_lst_dict, isi_dic_int, isi_dic_bool, isi_dic_str, isi_dic_tuple, isi_dic_list, isi_dic_dict]; exact q
/-- two parts, each looked at -/
theorem two {d : D} (h : Sm d) (f g : D → Bool) (mf mg : List D → MD) (hf : ∀ {d}, Sm d → ∀ Q : D → Prop, Q (.bl (f d)) → mf [d] Q) (hg : ∀ {d}, Sm d → ∀ Q : D → Prop, Q (.bl (g d)) → mg [d] Q) (Q : D → Prop) (q : Q (.bl (hd2 f g d))) :
    m__law_is_couple [d] fun z => asBl z fun b => if b = true then ixF d (.int 0) fun x => mf [x] fun z => asBl z fun b => if b = true then ixF d (.int 1) fun y => mg [y] Q else Q (.bl false) else Q (.bl false) := by
  refine lcouple h _ ?_
  simp -implicitDefEqProofs only [Dz.e_rng1, Dz.e_rngQ, Dz.e_seq, Dz.e_next, Dz.e_brk, Dz.e_cont, Dz.e_drop, Dz.e_ifS, Dz.e_asg, Dz.e_par, Dz.e_ret, Dz.e_retN, Dz.e_for, Dz.e_run1, Dz.e_run2, Dz.e_run3, Dz.e_run4, Dz.e_run5, Dz.e_run6, Dz.e_run7, Dz.e_run8, Dz.e_rep0, Dz.e_rep1, Dz.e_rep2, Dz.e_rep3, Dz.e_rep4, Dz.e_rep5, Dz.e_rep6, Dz.e_rep7, Dz.e_rep8, Dz.e_rep9, Dz.e_rep10, Dz.e_rep11, Dz.e_rep12, Dz.e_rep13, Dz.e_rep14, Dz.e_rep15, Dz.e_rep16, Dz.e_rep17, Dz.e_rep18, Dz.e_rep19, Dz.e_rep20, Dz.e_rep21, Dz.e_rep22, Dz.e_rep23, Dz.e_rep24, Dz.e_rep25, Dz.e_v0, Dz.e_s0, Dz.e_v1, Dz.e_s1, Dz.e_v2, Dz.e_s2, Dz.e_v3, Dz.e_s3, Dz.e_v4, Dz.e_s4, Dz.e_v5, Dz.e_s5, Dz.e_v6, Dz.e_s6, Dz.e_v7, Dz.e_s7, Dz.e_v8, Dz.e_s8, Dz.e_v9, Dz.e_s9, Dz.e_v10, Dz.e_s10, Dz.e_v11, Dz.e_s11, Dz.e_v12, Dz.e_s12, Dz.e_v13, Dz.e_s13, Dz.e_v14, Dz.e_s14, Dz.e_v15, Dz.e_s15, Dz.e_v16, Dz.e_s16, Dz.e_v17, Dz.e_s17, Dz.e_v18, Dz.e_s18, Dz.e_v19, Dz.e_s19, Dz.e_v20, Dz.e_s20, Dz.e_v21, Dz.e_s21, Dz.e_v22, Dz.e_s22, Dz.e_v23, Dz.e_s23, Dz.e_v24, Dz.e_s24, Dz.e_v25, Dz.e_s25, Dz.e_c, Dz.e_bin, Dz.e_un, Dz.e_test, Dz.e_tru, Dz.e_and, Dz.e_or, Dz.e_not, Dz.e_yes, Dz.e_andV, Dz.e_orV, Dz.e_notV, Dz.e_orT, Dz.e_andT, Dz.e_if, Dz.e_nil, Dz.e_cons, Dz.e_tup, Dz.e_lst, Dz.e_call, Dz.e_fn, Dz.e_chain, Dz.e_noP, Dz.e_part, Dz.e_sl, Dz.e_m1, Dz.e_m0, Dz.e_gv, Dz.e_gt, Dz.e_gc, Dz.e_gn, Dz.e_lc, Dz.e_w0, Dz.e_w1, Dz.e_list, Dz.e_tupI, Dz.e_strI, Dz.tru_bl, Dz.tru_int, Dz.tru_lst, Dz.tru_tup, Dz.tru_str, Dz.len_lst, Dz.len_tup, Dz.len_str, Dz.add_int', Dz.sub_int', Dz.lt_int', Dz.le_int', Dz.gt_int', Dz.ge_int', Dz.eq_int', Dz.ne_int', Dz.eq_str', Dz.ne_str', Dz.asBl_bl, Dz.asStr_str, Dz.asInt_int, Dz.asLst_lst, Dz.asTup_tup, Dz.add_str', Dz.add_lst', Dz.add_tup', Dz.mul_int', Dz.mul_str', Dz.mod_int'', Dz.div_int', Dz.ix_lst', Dz.ix_tup', Dz.ix_str', Dz.sl_lst', Dz.sl_tup', Dz.sl_str', Dz.neg_int', Dz.at0, Dz.at1, Dz.at2, Dz.at3, Dz.at4, Dz.at5, Dz.at6, Dz.at7, Dz.int_int', Dz.int_bl', Dz.tupF_lst, Dz.tupF_tup, Dz.lstF_lst, Dz.lstF_tup, Dz.is_bl', Dz.not_bl', Dz.take_eq, Dz.some_some, Dz.two_eq, List.length_cons, List.length_nil, List.map_cons, List.map_nil, List.append_nil, List.cons_append, List.nil_append, Nat.reduceAdd, Nat.reduceSub, Nat.reduceLeDiff, Nat.zero_add, Int.toNat_natCast, if_true, if_false, Bool.false_eq_true, Bool.not_true, Bool.not_false, true_and, and_true, ite_true, ite_false, isi_non_int, isi_non_bool, isi_non_str, isi_non_tuple, isi_non_list, isi_non_dict, isi_bl_int, isi_bl_bool, isi_bl_str, isi_bl_tuple, isi_bl_list, isi_bl_dict, isi_int_int, isi_int_bool, isi_int_str, isi_int_tuple, isi_int_list, isi_int_dict, isi_str_int, isi_str_bool, isi_str_str, isi_str_tuple, isi_str_list, isi_str_dict, isi_tup_int, isi_tup_bool, isi_tup_str, isi_tup_tuple, isi_tup_list, isi_tup_dict, isi_lst_int, isi_lst_bool, isi_lst_str, isi_lst_tuple, isi_lst_list, isi_lst_dict, isi_dic_int, isi_dic_bool, isi_dic_str, isi_dic_tuple, isi_dic_list, isi_dic_dict]
  cases d with
  | tup xs =>
    by_cases l : xs.length = 2
    · match xs, l with
      | [a, b], _ =>
        rw [if_pos (by rfl)]
        simp -implicitDefEqProofs only [Dz.e_rng1, Dz.e_rngQ, Dz.e_seq, Dz.e_next, Dz.e_brk, Dz.e_cont, Dz.e_drop, Dz.e_ifS, Dz.e_asg, Dz.e_par, Dz.e_ret, Dz.e_retN, Dz.e_for, Dz.e_run1, Dz.e_run2, Dz.e_run3, Dz.e_run4, Dz.e_run5, Dz.e_run6, Dz.e_run7, Dz.e_run8, Dz.e_rep0, Dz.e_rep1, Dz.e_rep2, Dz.e_rep3, Dz.e_rep4, Dz.e_rep5, Dz.e_rep6, Dz.e_rep7, Dz.e_rep8, Dz.e_rep9, Dz.e_rep10, Dz.e_rep11, Dz.e_rep12, Dz.e_rep13, Dz.e_rep14, Dz.e_rep15, Dz.e_rep16, Dz.e_rep17, Dz.e_rep18, Dz.e_rep19, Dz.e_rep20, Dz.e_rep21, Dz.e_rep22, Dz.e_rep23, Dz.e_rep24, Dz.e_rep25, Dz.e_v0, Dz.e_s0, Dz.e_v1, Dz.e_s1, Dz.e_v2, Dz.e_s2, Dz.e_v3, Dz.e_s3, Dz.e_v4, Dz.e_s4, Dz.e_v5, Dz.e_s5, Dz.e_v6, Dz.e_s6, Dz.e_v7, Dz.e_s7, Dz.e_v8, Dz.e_s8, Dz.e_v9, Dz.e_s9, Dz.e_v10, Dz.e_s10, Dz.e_v11, Dz.e_s11, Dz.e_v12, Dz.e_s12, Dz.e_v13, Dz.e_s13, Dz.e_v14, Dz.e_s14, Dz.e_v15, Dz.e_s15, Dz.e_v16, Dz.e_s16, Dz.e_v17, Dz.e_s17, Dz.e_v18, Dz.e_s18, Dz.e_v19, Dz.e_s19, Dz.e_v20, Dz.e_s20, Dz.e_v21, Dz.e_s21, Dz.e_v22, Dz.e_s22, Dz.e_v23, Dz.e_s23, Dz.e_v24, Dz.e_s24, Dz.e_v25, Dz.e_s25, Dz.e_c, Dz.e_bin, Dz.e_un, Dz.e_test, Dz.e_tru, Dz.e_and, Dz.e_or, Dz.e_not, Dz.e_yes, Dz.e_andV, Dz.e_orV, Dz.e_notV, Dz.e_orT, Dz.e_andT, Dz.e_if, Dz.e_nil, Dz.e_cons, Dz.e_tup, Dz.e_lst, Dz.e_call, Dz.e_fn, Dz.e_chain, Dz.e_noP, Dz.e_part, Dz.e_sl, Dz.e_m1, Dz.e_m0, Dz.e_gv, Dz.e_gt, Dz.e_gc, Dz.e_gn, Dz.e_lc, Dz.e_w0, Dz.e_w1, Dz.e_list, Dz.e_tupI, Dz.e_strI, Dz.tru_bl, Dz.tru_int, Dz.tru_lst, Dz.tru_tup, Dz.tru_str, Dz.len_lst, Dz.len_tup, Dz.len_str, Dz.add_int', Dz.sub_int', Dz.lt_int', Dz.le_int', Dz.gt_int', Dz.ge_int', Dz.eq_int', Dz.ne_int', Dz.eq_str', Dz.ne_str', Dz.asBl_bl, Dz.asStr_str, Dz.asInt_int, Dz.asLst_lst, Dz.asTup_tup, Dz.add_str', Dz.add_lst', Dz.add_tup', Dz.mul_int', Dz.mul_str', Dz.mod_int'', Dz.div_int', Dz.ix_lst', Dz.ix_tup', Dz.ix_str', Dz.sl_lst', Dz.sl_tup', Dz.sl_str', Dz.neg_int', Dz.at0, Dz.at1, Dz.at2, Dz.at3, Dz.at4, Dz.at5, Dz.at6, Dz.at7, Dz.int_int', Dz.int_bl', Dz.tupF_lst, Dz.tupF_tup, Dz.lstF_lst, Dz.lstF_tup, Dz.is_bl', Dz.not_bl', Dz.take_eq, Dz.some_some, Dz.two_eq, List.length_cons, List.length_nil, List.map_cons, List.map_nil, List.append_nil, List.cons_append, List.nil_append, Nat.reduceAdd, Nat.reduceSub, Nat.reduceLeDiff, Nat.zero_add, Int.toNat_natCast, if_true, if_false, Bool.false_eq_true, Bool.not_true, Bool.not_false, true_and, and_true, ite_true, ite_false, isi_non_int, isi_non_bool, isi_non_str, isi_non_tuple, isi_non_list, isi_non_dict, isi_bl_int, isi_bl_bool, isi_bl_str, isi_bl_tuple, isi_bl_list, isi_bl_dict, isi_int_int, isi_int_bool, isi_int_str, isi_int_tuple, isi_int_list, isi_int_dict, isi_str_int, isi_str_bool, isi_str_str, isi_str_tuple, isi_str_list, isi_str_dict, isi_tup_int, isi_tup_bool, isi_tup_str, isi_tup_tuple, isi_tup_list, isi_tup_dict, isi_lst_int, isi_lst_bool, isi_lst_str, isi_lst_tuple, isi_lst_list, isi_lst_dict, isi_dic_int, isi_dic_bool, isi_dic_str, isi_dic_tuple, isi_dic_list, isi_dic_dict]
        refine hf (h.mem (by simp)) _ ?_
        simp -implicitDefEqProofs only [Dz.e_rng1, Dz.e_rngQ, Dz.e_seq, Dz.e_next, Dz.e_brk, Dz.e_cont, Dz.e_drop, Dz.e_ifS, Dz.e_asg, Dz.e_par, Dz.e_ret, Dz.e_retN, Dz.e_for, Dz.e_run1, Dz.e_run2, Dz.e_run3, Dz.e_run4, Dz.e_run5, Dz.e_run6, Dz.e_run7, Dz.e_run8, Dz.e_rep0, Dz.e_rep1, Dz.e_rep2, Dz.e_rep3, Dz.e_rep4, Dz.e_rep5, Dz.e_rep6, Dz.e_rep7, Dz.e_rep8, Dz.e_rep9, Dz.e_rep10, Dz.e_rep11, Dz.e_rep12, Dz.e_rep13, Dz.e_rep14, Dz.e_rep15, Dz.e_rep16, Dz.e_rep17, Dz.e_rep18, Dz.e_rep19, Dz.e_rep20, Dz.e_rep21, Dz.e_rep22, Dz.e_rep23, Dz.e_rep24, Dz.e_rep25, Dz.e_v0, Dz.e_s0, Dz.e_v1, Dz.e_s1, Dz.e_v2, Dz.e_s2, Dz.e_v3, Dz.e_s3, Dz.e_v4, Dz.e_s4, Dz.e_v5, Dz.e_s5, Dz.e_v6, Dz.e_s6, Dz.e_v7, Dz.e_s7, Dz.e_v8, Dz.e_s8, Dz.e_v9, Dz.e_s9, Dz.e_v10, Dz.e_s10, Dz.e_v11, Dz.e_s11, Dz.e_v12, Dz.e_s12, Dz.e_v13, Dz.e_s13, Dz.e_v14, Dz.e_s14, Dz.e_v15, Dz.e_s15, Dz.e_v16, Dz.e_s16, Dz.e_v17, Dz.e_s17, Dz.e_v18, Dz.e_s18, Dz.e_v19, Dz.e_s19, Dz.e_v20, Dz.e_s20, Dz.e_v21, Dz.e_s21, Dz.e_v22, Dz.e_s22, Dz.e_v23, Dz.e_s23, Dz.e_v24, Dz.e_s24, Dz.e_v25, Dz.e_s25, Dz.e_c, Dz.e_bin, Dz.e_un, Dz.e_test, Dz.e_tru, Dz.e_and, Dz.e_or, Dz.e_not, Dz.e_yes, Dz.e_andV, Dz.e_orV, Dz.e_notV, Dz.e_orT, Dz.e_andT, Dz.e_if, Dz.e_nil, Dz.e_cons, Dz.e_tup, Dz.e_lst, Dz.e_call, Dz.e_fn, Dz.e_chain, Dz.e_noP, Dz.e_part, Dz.e_sl, Dz.e_m1, Dz.e_m0, Dz.e_gv, Dz.e_gt, Dz.e_gc, Dz.e_gn, Dz.e_lc, Dz.e_w0, Dz.e_w1, Dz.e_list, Dz.e_tupI, Dz.e_strI, Dz.tru_bl, Dz.tru_int, Dz.tru_lst, Dz.tru_tup, Dz.tru_str, Dz.len_lst, Dz.len_tup, Dz.len_str, Dz.add_int', Dz.sub_int', Dz.lt_int', Dz.le_int', Dz.gt_int', Dz.ge_int', Dz.eq_int', Dz.ne_int', Dz.eq_str', Dz.ne_str', Dz.asBl_bl, Dz.asStr_str, Dz.asInt_int, Dz.asLst_lst, Dz.asTup_tup, Dz.add_str', Dz.add_lst', Dz.add_tup', Dz.mul_int', Dz.mul_str', Dz.mod_int'', Dz.div_int', Dz.ix_lst', Dz.ix_tup', Dz.ix_str', Dz.sl_lst', Dz.sl_tup', Dz.sl_str', Dz.neg_int', Dz.at0, Dz.at1, Dz.at2, Dz.at3, Dz.at4, Dz.at5, Dz.at6, Dz.at7, Dz.int_int', Dz.int_bl', Dz.tupF_lst, Dz.tupF_tup, Dz.lstF_lst, Dz.lstF_tup, Dz.is_bl', Dz.not_bl', Dz.take_eq, Dz.some_some, Dz.two_eq, List.length_cons, List.length_nil, List.map_cons, List.map_nil, List.append_nil, List.cons_append, List.nil_append, Nat.reduceAdd, Nat.reduceSub, Nat.reduceLeDiff, Nat.zero_add, Int.toNat_natCast, if_true, if_false, Bool.false_eq_true, Bool.not_true, Bool.not_false, true_and, and_true, ite_true, ite_false, isi_non_int, isi_non_bool, isi_non_str, isi_non_tuple, isi_non_list, isi_non_dict, isi_bl_int, isi_bl_bool, isi_bl_str, isi_bl_tuple, isi_bl_list, isi_bl_dict, isi_int_int, isi_int_bool, isi_int_str, isi_int_tuple, isi_int_list, isi_int_dict, isi_str_int, isi_str_bool, isi_str_str, isi_str_tuple, isi_str_list, isi_str_dict, isi_tup_int, isi_tup_bool, isi_tup_str, isi_tup_tuple, isi_tup_list, isi_tup_dict, isi_lst_int, isi_lst_bool, isi_lst_str, isi_lst_tuple, isi_lst_list, isi_lst_dict, isi_dic_int, isi_dic_bool, isi_dic_str, isi_dic_tuple, isi_dic_list, isi_dic_dict]
        replace q : Q (.bl (f a && g b)) := q
        cases c : f a with
        | true =>
          rw [c, Bool.true_and] at q
          exact hg (h.mem (by simp)) _ q
        | false => rw [c, Bool.false_and] at q; exact q
    · rw [if_neg (by unfold cp; simpa using l)]
      have : hd2 f g (.tup xs) = false := by
        unfold hd2
        split
        · rename_i e; cases e; exact absurd rfl l
        · rfl
      rw [this] at q; exact q
  | _ => exact q
end K11

namespace K11
open PySem PySem.Spec PyProof.Rows L2 Dz
theorem isholder {d : D} (h : Sm d) (Q : D → Prop) (q : Q (.bl (hd2 nm wd d))) : m_is_holder [d] Q := by
  cases d with
  | tup xs =>
    unfold m_is_holder; simp -implicitDefEqProofs only [Dz.e_rng1, Dz.e_rngQ, Dz.e_seq, Dz.e_next, Dz.e_brk, Dz.e_cont, Dz.e_drop, Dz.e_ifS, Dz.e_asg, Dz.e_par, Dz.e_ret, Dz.e_retN, Dz.e_for, Dz.e_run1, Dz.e_run2, Dz.e_run3, Dz.e_run4, Dz.e_run5, Dz.e_run6, Dz.e_run7, Dz.e_run8, Dz.e_rep0, Dz.e_rep1, Dz.e_rep2, Dz.e_rep3, Dz.e_rep4, Dz.e_rep5, Dz.e_rep6, Dz.e_rep7, Dz.e_rep8, Dz.e_rep9, Dz.e_rep10, Dz.e_rep11, Dz.e_rep12, Dz.e_rep13, Dz.e_rep14, Dz.e_rep15, Dz.e_rep16, Dz.e_rep17, Dz.e_rep18, Dz.e_rep19, Dz.e_rep20, Dz.e_rep21, Dz.e_rep22, Dz.e_rep23, Dz.e_rep24, Dz.e_rep25, Dz.e_v0, Dz.e_s0, Dz.e_v1, Dz.e_s1, Dz.e_v2, Dz.e_s2, Dz.e_v3, Dz.e_s3, Dz.e_v4, Dz.e_s4, Dz.e_v5, Dz.e_s5, Dz.e_v6, Dz.e_s6, Dz.e_v7, Dz.e_s7, Dz.e_v8, Dz.e_s8, Dz.e_v9, Dz.e_s9, Dz.e_v10, Dz.e_s10, Dz.e_v11, Dz.e_s11, Dz.e_v12, Dz.e_s12, Dz.e_v13, Dz.e_s13, Dz.e_v14, Dz.e_s14, Dz.e_v15, Dz.e_s15, Dz.e_v16, Dz.e_s16, Dz.e_v17, Dz.e_s17, Dz.e_v18, Dz.e_s18, Dz.e_v19, Dz.e_s19, Dz.e_v20, Dz.e_s20, Dz.e_v21, Dz.e_s21, Dz.e_v22, Dz.e_s22, Dz.e_v23, Dz.e_s23, Dz.e_v24, Dz.e_s24, Dz.e_v25, Dz.e_s25, Dz.e_c, Dz.e_bin, Dz.e_un, Dz.e_test, Dz.e_tru, Dz.e_and, Dz.e_or, Dz.e_not, Dz.e_yes, Dz.e_andV, Dz.e_orV, Dz.e_notV, Dz.e_orT, Dz.e_andT, Dz.e_if, Dz.e_nil, Dz.e_cons, Dz.e_tup, Dz.e_lst, Dz.e_call, Dz.e_fn, Dz.e_chain, Dz.e_noP, Dz.e_part, Dz.e_sl, Dz.e_m1, Dz.e_m0, Dz.e_gv, Dz.e_gt, Dz.e_gc, Dz.e_gn, Dz.e_lc, Dz.e_w0, Dz.e_w1, Dz.e_list, Dz.e_tupI, Dz.e_strI, Dz.tru_bl, Dz.tru_int, Dz.tru_lst, Dz.tru_tup, Dz.tru_str, Dz.len_lst, Dz.len_tup, Dz.len_str, Dz.add_int', Dz.sub_int', Dz.lt_int', Dz.le_int', Dz.gt_int', Dz.ge_int', Dz.eq_int', Dz.ne_int', Dz.eq_str', Dz.ne_str', Dz.asBl_bl, Dz.asStr_str, Dz.asInt_int, Dz.asLst_lst, Dz.asTup_tup, Dz.add_str', Dz.add_lst', Dz.add_tup', Dz.mul_int', Dz.mul_str', Dz.mod_int'', Dz.div_int', Dz.ix_lst', Dz.ix_tup', Dz.ix_str', Dz.sl_lst', Dz.sl_tup', Dz.sl_str', Dz.neg_int', Dz.at0, Dz.at1, Dz.at2, Dz.at3, Dz.at4, Dz.at5, Dz.at6, Dz.at7, Dz.int_int', Dz.int_bl', Dz.tupF_lst, Dz.tupF_tup, Dz.lstF_lst, Dz.lstF_tup, Dz.is_bl', Dz.not_bl', Dz.take_eq, Dz.some_some, Dz.two_eq, List.length_cons, List.length_nil, List.map_cons, List.map_nil, List.append_nil, List.cons_append, List.nil_append, Nat.reduceAdd, Nat.reduceSub, Nat.reduceLeDiff, Nat.zero_add, Int.toNat_natCast, if_true, if_false, Bool.false_eq_true, Bool.not_true, Bool.not_false, true_and, and_true, ite_true, ite_false, isi_non_int, isi_non_bool, isi_non_str, isi_non_tuple, isi_non_list, isi_non_dict, isi_bl_int, isi_bl_bool, isi_bl_str, isi_bl_tuple, isi_bl_list, isi_bl_dict, isi_int_int, isi_int_bool, isi_int_str, isi_int_tuple, isi_int_list, isi_int_dict, isi_str_int, isi_str_bool, isi_str_str, isi_str_tuple, isi_str_list, isi_str_dict, isi_tup_int, isi_tup_bool, isi_tup_str, isi_tup_tuple, isi_tup_list, isi_tup_dict, isi_lst_int, isi_lst_bool, isi_lst_str, isi_lst_tuple, isi_lst_list, isi_lst_dict, isi_dic_int, isi_dic_bool, isi_dic_str, isi_dic_tuple, isi_dic_list, isi_dic_dict, eqG_int]
    by_cases l : xs.length = 2
    · match xs, l with
      | [a, b], _ =>
        rw [if_pos (by rfl)]
        simp -implicitDefEqProofs only [Dz.e_rng1, Dz.e_rngQ, Dz.e_seq, Dz.e_next, Dz.e_brk, Dz.e_cont, Dz.e_drop, Dz.e_ifS, Dz.e_asg, Dz.e_par, Dz.e_ret, Dz.e_retN, Dz.e_for, Dz.e_run1, Dz.e_run2, Dz.e_run3, Dz.e_run4, Dz.e_run5, Dz.e_run6, Dz.e_run7, Dz.e_run8, Dz.e_rep0, Dz.e_rep1, Dz.e_rep2, Dz.e_rep3, Dz.e_rep4, Dz.e_rep5, Dz.e_rep6, Dz.e_rep7, Dz.e_rep8, Dz.e_rep9, Dz.e_rep10, Dz.e_rep11, Dz.e_rep12, Dz.e_rep13, Dz.e_rep14, Dz.e_rep15, Dz.e_rep16, Dz.e_rep17, Dz.e_rep18, Dz.e_rep19, Dz.e_rep20, Dz.e_rep21, Dz.e_rep22, Dz.e_rep23, Dz.e_rep24, Dz.e_rep25, Dz.e_v0, Dz.e_s0, Dz.e_v1, Dz.e_s1, Dz.e_v2, Dz.e_s2, Dz.e_v3, Dz.e_s3, Dz.e_v4, Dz.e_s4, Dz.e_v5, Dz.e_s5, Dz.e_v6, Dz.e_s6, Dz.e_v7, Dz.e_s7, Dz.e_v8, Dz.e_s8, Dz.e_v9, Dz.e_s9, Dz.e_v10, Dz.e_s10, Dz.e_v11, Dz.e_s11, Dz.e_v12, Dz.e_s12, Dz.e_v13, Dz.e_s13, Dz.e_v14, Dz.e_s14, Dz.e_v15, Dz.e_s15, Dz.e_v16, Dz.e_s16, Dz.e_v17, Dz.e_s17, Dz.e_v18, Dz.e_s18, Dz.e_v19, Dz.e_s19, Dz.e_v20, Dz.e_s20, Dz.e_v21, Dz.e_s21, Dz.e_v22, Dz.e_s22, Dz.e_v23, Dz.e_s23, Dz.e_v24, Dz.e_s24, Dz.e_v25, Dz.e_s25, Dz.e_c, Dz.e_bin, Dz.e_un, Dz.e_test, Dz.e_tru, Dz.e_and, Dz.e_or, Dz.e_not, Dz.e_yes, Dz.e_andV, Dz.e_orV, Dz.e_notV, Dz.e_orT, Dz.e_andT, Dz.e_if, Dz.e_nil, Dz.e_cons, Dz.e_tup, Dz.e_lst, Dz.e_call, Dz.e_fn, Dz.e_chain, Dz.e_noP, Dz.e_part, Dz.e_sl, Dz.e_m1, Dz.e_m0, Dz.e_gv, Dz.e_gt, Dz.e_gc, Dz.e_gn, Dz.e_lc, Dz.e_w0, Dz.e_w1, Dz.e_list, Dz.e_tupI, Dz.e_strI, Dz.tru_bl, Dz.tru_int, Dz.tru_lst, Dz.tru_tup, Dz.tru_str, Dz.len_lst, Dz.len_tup, Dz.len_str, Dz.add_int', Dz.sub_int', Dz.lt_int', Dz.le_int', Dz.gt_int', Dz.ge_int', Dz.eq_int', Dz.ne_int', Dz.eq_str', Dz.ne_str', Dz.asBl_bl, Dz.asStr_str, Dz.asInt_int, Dz.asLst_lst, Dz.asTup_tup, Dz.add_str', Dz.add_lst', Dz.add_tup', Dz.mul_int', Dz.mul_str', Dz.mod_int'', Dz.div_int', Dz.ix_lst', Dz.ix_tup', Dz.ix_str', Dz.sl_lst', Dz.sl_tup', Dz.sl_str', Dz.neg_int', Dz.at0, Dz.at1, Dz.at2, Dz.at3, Dz.at4, Dz.at5, Dz.at6, Dz.at7, Dz.int_int', Dz.int_bl', Dz.tupF_lst, Dz.tupF_tup, Dz.lstF_lst, Dz.lstF_tup, Dz.is_bl', Dz.not_bl', Dz.take_eq, Dz.some_some, Dz.two_eq, List.length_cons, List.length_nil, List.map_cons, List.map_nil, List.append_nil, List.cons_append, List.nil_append, Nat.reduceAdd, Nat.reduceSub, Nat.reduceLeDiff, Nat.zero_add, Int.toNat_natCast, if_true, if_false, Bool.false_eq_true, Bool.not_true, Bool.not_false, true_and, and_true, ite_true, ite_false, isi_non_int, isi_non_bool, isi_non_str, isi_non_tuple, isi_non_list, isi_non_dict, isi_bl_int, isi_bl_bool, isi_bl_str, isi_bl_tuple, isi_bl_list, isi_bl_dict, isi_int_int, isi_int_bool, isi_int_str, isi_int_tuple, isi_int_list, isi_int_dict, isi_str_int, isi_str_bool, isi_str_str, isi_str_tuple, isi_str_list, isi_str_dict, isi_tup_int, isi_tup_bool, isi_tup_str, isi_tup_tuple, isi_tup_list, isi_tup_dict, isi_lst_int, isi_lst_bool, isi_lst_str, isi_lst_tuple, isi_lst_list, isi_lst_dict, isi_dic_int, isi_dic_bool, isi_dic_str, isi_dic_tuple, isi_dic_list, isi_dic_dict]
        refine isname (h.mem (by simp)) _ ?_
        simp -implicitDefEqProofs only [Dz.e_rng1, Dz.e_rngQ, Dz.e_seq, Dz.e_next, Dz.e_brk, Dz.e_cont, Dz.e_drop, Dz.e_ifS, Dz.e_asg, Dz.e_par, Dz.e_ret, Dz.e_retN, Dz.e_for, Dz.e_run1, Dz.e_run2, Dz.e_run3, Dz.e_run4, Dz.e_run5, Dz.e_run6, Dz.e_run7, Dz.e_run8, Dz.e_rep0, Dz.e_rep1, Dz.e_rep2, Dz.e_rep3, Dz.e_rep4, Dz.e_rep5, Dz.e_rep6, Dz.e_rep7, Dz.e_rep8, Dz.e_rep9, Dz.e_rep10, Dz.e_rep11, Dz.e_rep12, Dz.e_rep13, Dz.e_rep14, Dz.e_rep15, Dz.e_rep16, Dz.e_rep17, Dz.e_rep18, Dz.e_rep19, Dz.e_rep20, Dz.e_rep21, Dz.e_rep22, Dz.e_rep23, Dz.e_rep24, Dz.e_rep25, Dz.e_v0, Dz.e_s0, Dz.e_v1, Dz.e_s1, Dz.e_v2, Dz.e_s2, Dz.e_v3, Dz.e_s3, Dz.e_v4, Dz.e_s4, Dz.e_v5, Dz.e_s5, Dz.e_v6, Dz.e_s6, Dz.e_v7, Dz.e_s7, Dz.e_v8, Dz.e_s8, Dz.e_v9, Dz.e_s9, Dz.e_v10, Dz.e_s10, Dz.e_v11, Dz.e_s11, Dz.e_v12, Dz.e_s12, Dz.e_v13, Dz.e_s13, Dz.e_v14, Dz.e_s14, Dz.e_v15, Dz.e_s15, Dz.e_v16, Dz.e_s16, Dz.e_v17, Dz.e_s17, Dz.e_v18, Dz.e_s18, Dz.e_v19, Dz.e_s19, Dz.e_v20, Dz.e_s20, Dz.e_v21, Dz.e_s21, Dz.e_v22, Dz.e_s22, Dz.e_v23, Dz.e_s23, Dz.e_v24, Dz.e_s24, Dz.e_v25, Dz.e_s25, Dz.e_c, Dz.e_bin, Dz.e_un, Dz.e_test, Dz.e_tru, Dz.e_and, Dz.e_or, Dz.e_not, Dz.e_yes, Dz.e_andV, Dz.e_orV, Dz.e_notV, Dz.e_orT, Dz.e_andT, Dz.e_if, Dz.e_nil, Dz.e_cons, Dz.e_tup, Dz.e_lst, Dz.e_call, Dz.e_fn, Dz.e_chain, Dz.e_noP, Dz.e_part, Dz.e_sl, Dz.e_m1, Dz.e_m0, Dz.e_gv, Dz.e_gt, Dz.e_gc, Dz.e_gn, Dz.e_lc, Dz.e_w0, Dz.e_w1, Dz.e_list, Dz.e_tupI, Dz.e_strI, Dz.tru_bl, Dz.tru_int, Dz.tru_lst, Dz.tru_tup, Dz.tru_str, Dz.len_lst, Dz.len_tup, Dz.len_str, Dz.add_int', Dz.sub_int', Dz.lt_int', Dz.le_int', Dz.gt_int', Dz.ge_int', Dz.eq_int', Dz.ne_int', Dz.eq_str', Dz.ne_str', Dz.asBl_bl, Dz.asStr_str, Dz.asInt_int, Dz.asLst_lst, Dz.asTup_tup, Dz.add_str', Dz.add_lst', Dz.add_tup', Dz.mul_int', Dz.mul_str', Dz.mod_int'', Dz.div_int', Dz.ix_lst', Dz.ix_tup', Dz.ix_str', Dz.sl_lst', Dz.sl_tup', Dz.sl_str', Dz.neg_int', Dz.at0, Dz.at1, Dz.at2, Dz.at3, Dz.at4, Dz.at5, Dz.at6, Dz.at7, Dz.int_int', Dz.int_bl', Dz.tupF_lst, Dz.tupF_tup, Dz.lstF_lst, Dz.lstF_tup, Dz.is_bl', Dz.not_bl', Dz.take_eq, Dz.some_some, Dz.two_eq, List.length_cons, List.length_nil, List.map_cons, List.map_nil, List.append_nil, List.cons_append, List.nil_append, Nat.reduceAdd, Nat.reduceSub, Nat.reduceLeDiff, Nat.zero_add, Int.toNat_natCast, if_true, if_false, Bool.false_eq_true, Bool.not_true, Bool.not_false, true_and, and_true, ite_true, ite_false, isi_non_int, isi_non_bool, isi_non_str, isi_non_tuple, isi_non_list, isi_non_dict, isi_bl_int, isi_bl_bool, isi_bl_str, isi_bl_tuple, isi_bl_list, isi_bl_dict, isi_int_int, isi_int_bool, isi_int_str, isi_int_tuple, isi_int_list, isi_int_dict, isi_str_int, isi_str_bool, isi_str_str, isi_str_tuple, isi_str_list, isi_str_dict, isi_tup_int, isi_tup_bool, isi_tup_str, isi_tup_tuple, isi_tup_list, isi_tup_dict, isi_lst_int, isi_lst_bool, isi_lst_str, isi_lst_tuple, isi_lst_list, isi_lst_dict, isi_dic_int, isi_dic_bool, isi_dic_str, isi_dic_tuple, isi_dic_list, isi_dic_dict]
        replace q : Q (.bl (nm a && wd b)) := q
        cases c : nm a with
        | true => rw [c, Bool.true_and] at q; exact isword (h.mem (by simp)) _ q
        | false => rw [c, Bool.false_and] at q; exact q
    · rw [if_neg (by simp; omega)]
      have : hd2 nm wd (.tup xs) = false := by
        unfold hd2
        split
        · rename_i e; cases e; exact absurd rfl l
        · rfl
      rw [this] at q; exact q
  | obj | ty | cls | bag => exact absurd h.1 (by simp [pq, D.pl, D.pd])
  | _ => unfold m_is_holder; simp -implicitDefEqProofs only [Dz.e_rng1, Dz.e_rngQ, Dz.e_seq, Dz.e_next, Dz.e_brk, Dz.e_cont, Dz.e_drop, Dz.e_ifS, Dz.e_asg, Dz.e_par, Dz.e_ret, Dz.e_retN, Dz.e_for, Dz.e_run1, Dz.e_run2, Dz.e_run3, Dz.e_run4, Dz.e_run5, Dz.e_run6, Dz.e_run7, Dz.e_run8, Dz.e_rep0, Dz.e_rep1, Dz.e_rep2, Dz.e_rep3, Dz.e_rep4, Dz.e_rep5, Dz.e_rep6, Dz.e_rep7, Dz.e_rep8, Dz.e_rep9, Dz.e_rep10, Dz.e_rep11, Dz.e_rep12, Dz.e_rep13, Dz.e_rep14, Dz.e_rep15, Dz.e_rep16, Dz.e_rep17, Dz.e_rep18, Dz.e_rep19, Dz.e_rep20, Dz.e_rep21, Dz.e_rep22, Dz.e_rep23, Dz.e_rep24, Dz.e_rep25, Dz.e_v0, Dz.e_s0, Dz.e_v1, Dz.e_s1, Dz.e_v2, Dz.e_s2, Dz.e_v3, Dz.e_s3, Dz.e_v4, Dz.e_s4, Dz.e_v5, Dz.e_s5, Dz.e_v6, Dz.e_s6, Dz.e_v7, Dz.e_s7, Dz.e_v8, Dz.e_s8, Dz.e_v9, Dz.e_s9, Dz.e_v10, Dz.e_s10, Dz.e_v11, Dz.e_s11, Dz.e_v12, Dz.e_s12, Dz.e_v13, Dz.e_s13, Dz.e_v14, Dz.e_s14, Dz.e_v15, Dz.e_s15, Dz.e_v16, Dz.e_s16, Dz.e_v17, Dz.e_s17, Dz.e_v18, Dz.e_s18, Dz.e_v19, Dz.e_s19, Dz.e_v20, Dz.e_s20, Dz.e_v21, Dz.e_s21, Dz.e_v22, Dz.e_s22, Dz.e_v23, Dz.e_s23, Dz.e_v24, Dz.e_s24, Dz.e_v25, Dz.e_s25, Dz.e_c, Dz.e_bin, Dz.e_un, Dz.e_test, Dz.e_tru, Dz.e_and, Dz.e_or, Dz.e_not, Dz.e_yes, Dz.e_andV, Dz.e_orV, Dz.e_notV, Dz.e_orT, Dz.e_andT, Dz.e_if, Dz.e_nil, Dz.e_cons, Dz.e_tup, Dz.e_lst, Dz.e_call, Dz.e_fn, Dz.e_chain, Dz.e_noP, Dz.e_part, Dz.e_sl, Dz.e_m1, Dz.e_m0, Dz.e_gv, Dz.e_gt, Dz.e_gc, Dz.e_gn, Dz.e_lc, Dz.e_w0, Dz.e_w1, Dz.e_list, Dz.e_tupI, Dz.e_strI, Dz.tru_bl, Dz.tru_int, Dz.tru_lst, Dz.tru_tup, Dz.tru_str, Dz.len_lst, Dz.len_tup, Dz.len_str, Dz.add_int', Dz.sub_int', Dz.lt_int', Dz.le_int', Dz.gt_int', Dz.ge_int', Dz.eq_int', Dz.ne_int', Dz.eq_str', Dz.ne_str', Dz.asBl_bl, Dz.asStr_str, Dz.asInt_int, Dz.asLst_lst, Dz.asTup_tup, Dz.add_str', Dz.add_lst', Dz.add_tup', Dz.mul_int', Dz.mul_str', Dz.mod_int'', Dz.div_int', Dz.ix_lst', Dz.ix_tup', Dz.ix_str', Dz.sl_lst', Dz.sl_tup', Dz.sl_str', Dz.neg_int', Dz.at0, Dz.at1, Dz.at2, Dz.at3, Dz.at4, Dz.at5, Dz.at6, Dz.at7, Dz.int_int', Dz.int_bl', Dz.tupF_lst, Dz.tupF_tup, Dz.lstF_lst, Dz.lstF_tup, Dz.is_bl', Dz.not_bl', Dz.take_eq, Dz.some_some, Dz.two_eq, List.length_cons, List.length_nil, List.map_cons, List.map_nil, List.append_nil, List.cons_append, List.nil_append, Nat.reduceAdd, Nat.reduceSub, Nat.reduceLeDiff, Nat.zero_add, Int.toNat_natCast, if_true, if_false, Bool.false_eq_true, Bool.not_true, Bool.not_false, true_and, and_true, ite_true, ite_false, isi_non_int, isi_non_bool, isi_non_str, isi_non_tuple, isi_non_list, isi_non_dict, isi_bl_int, isi_bl_bool, isi_bl_str, isi_bl_tuple, isi_bl_list, isi_bl_dict, isi_int_int, isi_int_bool, isi_int_str, isi_int_tuple, isi_int_list, isi_int_dict, isi_str_int, isi_str_bool, isi_str_str, isi_str_tuple, isi_str_list, isi_str_dict, isi_tup_int, isi_tup_bool, isi_tup_str, isi_tup_tuple, isi_tup_list, isi_tup_dict, isi_lst_int, isi_lst_bool, isi_lst_str, isi_lst_tuple, isi_lst_list, isi_lst_dict, isi_dic_int, isi_dic_bool, isi_dic_str, isi_dic_tuple, isi_dic_list, isi_dic_dict]; exact q
theorem ispair {d : D} (h : Sm d) (Q : D → Prop) (q : Q (.bl (hd2 wd wd d))) : m_is_pair [d] Q := by
  cases d with
  | tup xs =>
    unfold m_is_pair; simp -implicitDefEqProofs only [Dz.e_rng1, Dz.e_rngQ, Dz.e_seq, Dz.e_next, Dz.e_brk, Dz.e_cont, Dz.e_drop, Dz.e_ifS, Dz.e_asg, Dz.e_par, Dz.e_ret, Dz.e_retN, Dz.e_for, Dz.e_run1, Dz.e_run2, Dz.e_run3, Dz.e_run4, Dz.e_run5, Dz.e_run6, Dz.e_run7, Dz.e_run8, Dz.e_rep0, Dz.e_rep1, Dz.e_rep2, Dz.e_rep3, Dz.e_rep4, Dz.e_rep5, Dz.e_rep6, Dz.e_rep7, Dz.e_rep8, Dz.e_rep9, Dz.e_rep10, Dz.e_rep11, Dz.e_rep12, Dz.e_rep13, Dz.e_rep14, Dz.e_rep15, Dz.e_rep16, Dz.e_rep17, Dz.e_rep18, Dz.e_rep19, Dz.e_rep20, Dz.e_rep21, Dz.e_rep22, Dz.e_rep23, Dz.e_rep24, Dz.e_rep25, Dz.e_v0, Dz.e_s0, Dz.e_v1, Dz.e_s1, Dz.e_v2, Dz.e_s2, Dz.e_v3, Dz.e_s3, Dz.e_v4, Dz.e_s4, Dz.e_v5, Dz.e_s5, Dz.e_v6, Dz.e_s6, Dz.e_v7, Dz.e_s7, Dz.e_v8, Dz.e_s8, Dz.e_v9, Dz.e_s9, Dz.e_v10, Dz.e_s10, Dz.e_v11, Dz.e_s11, Dz.e_v12, Dz.e_s12, Dz.e_v13, Dz.e_s13, Dz.e_v14, Dz.e_s14, Dz.e_v15, Dz.e_s15, Dz.e_v16, Dz.e_s16, Dz.e_v17, Dz.e_s17, Dz.e_v18, Dz.e_s18, Dz.e_v19, Dz.e_s19, Dz.e_v20, Dz.e_s20, Dz.e_v21, Dz.e_s21, Dz.e_v22, Dz.e_s22, Dz.e_v23, Dz.e_s23, Dz.e_v24, Dz.e_s24, Dz.e_v25, Dz.e_s25, Dz.e_c, Dz.e_bin, Dz.e_un, Dz.e_test, Dz.e_tru, Dz.e_and, Dz.e_or, Dz.e_not, Dz.e_yes, Dz.e_andV, Dz.e_orV, Dz.e_notV, Dz.e_orT, Dz.e_andT, Dz.e_if, Dz.e_nil, Dz.e_cons, Dz.e_tup, Dz.e_lst, Dz.e_call, Dz.e_fn, Dz.e_chain, Dz.e_noP, Dz.e_part, Dz.e_sl, Dz.e_m1, Dz.e_m0, Dz.e_gv, Dz.e_gt, Dz.e_gc, Dz.e_gn, Dz.e_lc, Dz.e_w0, Dz.e_w1, Dz.e_list, Dz.e_tupI, Dz.e_strI, Dz.tru_bl, Dz.tru_int, Dz.tru_lst, Dz.tru_tup, Dz.tru_str, Dz.len_lst, Dz.len_tup, Dz.len_str, Dz.add_int', Dz.sub_int', Dz.lt_int', Dz.le_int', Dz.gt_int', Dz.ge_int', Dz.eq_int', Dz.ne_int', Dz.eq_str', Dz.ne_str', Dz.asBl_bl, Dz.asStr_str, Dz.asInt_int, Dz.asLst_lst, Dz.asTup_tup, Dz.add_str', Dz.add_lst', Dz.add_tup', Dz.mul_int', Dz.mul_str', Dz.mod_int'', Dz.div_int', Dz.ix_lst', Dz.ix_tup', Dz.ix_str', Dz.sl_lst', Dz.sl_tup', Dz.sl_str', Dz.neg_int', Dz.at0, Dz.at1, Dz.at2, Dz.at3, Dz.at4, Dz.at5, Dz.at6, Dz.at7, Dz.int_int', Dz.int_bl', Dz.tupF_lst, Dz.tupF_tup, Dz.lstF_lst, Dz.lstF_tup, Dz.is_bl', Dz.not_bl', Dz.take_eq, Dz.some_some, Dz.two_eq, List.length_cons, List.length_nil, List.map_cons, List.map_nil, List.append_nil, List.cons_append, List.nil_append, Nat.reduceAdd, Nat.reduceSub, Nat.reduceLeDiff, Nat.zero_add, Int.toNat_natCast, if_true, if_false, Bool.false_eq_true, Bool.not_true, Bool.not_false, true_and, and_true, ite_true, ite_false, isi_non_int, isi_non_bool, isi_non_str, isi_non_tuple, isi_non_list, isi_non_dict, isi_bl_int, isi_bl_bool, isi_bl_str, isi_bl_tuple, isi_bl_list, isi_bl_dict, isi_int_int, isi_int_bool, isi_int_str, isi_int_tuple, isi_int_list, isi_int_dict, isi_str_int, isi_str_bool, isi_str_str, isi_str_tuple, isi_str_list, isi_str_dict, isi_tup_int, isi_tup_bool, isi_tup_str, isi_tup_tuple, isi_tup_list, isi_tup_dict, isi_lst_int, isi_lst_bool, isi_lst_str, isi_lst_tuple, isi_lst_list, isi_lst_dict, isi_dic_int, isi_dic_bool, isi_dic_str, isi_dic_tuple, isi_dic_list, isi_dic_dict, eqG_int]
    by_cases l : xs.length = 2
    · match xs, l with
      | [a, b], _ =>
        rw [if_pos (by rfl)]
        simp -implicitDefEqProofs only [Dz.e_rng1, Dz.e_rngQ, Dz.e_seq, Dz.e_next, Dz.e_brk, Dz.e_cont, Dz.e_drop, Dz.e_ifS, Dz.e_asg, Dz.e_par, Dz.e_ret, Dz.e_retN, Dz.e_for, Dz.e_run1, Dz.e_run2, Dz.e_run3, Dz.e_run4, Dz.e_run5, Dz.e_run6, Dz.e_run7, Dz.e_run8, Dz.e_rep0, Dz.e_rep1, Dz.e_rep2, Dz.e_rep3, Dz.e_rep4, Dz.e_rep5, Dz.e_rep6, Dz.e_rep7, Dz.e_rep8, Dz.e_rep9, Dz.e_rep10, Dz.e_rep11, Dz.e_rep12, Dz.e_rep13, Dz.e_rep14, Dz.e_rep15, Dz.e_rep16, Dz.e_rep17, Dz.e_rep18, Dz.e_rep19, Dz.e_rep20, Dz.e_rep21, Dz.e_rep22, Dz.e_rep23, Dz.e_rep24, Dz.e_rep25, Dz.e_v0, Dz.e_s0, Dz.e_v1, Dz.e_s1, Dz.e_v2, Dz.e_s2, Dz.e_v3, Dz.e_s3, Dz.e_v4, Dz.e_s4, Dz.e_v5, Dz.e_s5, Dz.e_v6, Dz.e_s6, Dz.e_v7, Dz.e_s7, Dz.e_v8, Dz.e_s8, Dz.e_v9, Dz.e_s9, Dz.e_v10, Dz.e_s10, Dz.e_v11, Dz.e_s11, Dz.e_v12, Dz.e_s12, Dz.e_v13, Dz.e_s13, Dz.e_v14, Dz.e_s14, Dz.e_v15, Dz.e_s15, Dz.e_v16, Dz.e_s16, Dz.e_v17, Dz.e_s17, Dz.e_v18, Dz.e_s18, Dz.e_v19, Dz.e_s19, Dz.e_v20, Dz.e_s20, Dz.e_v21, Dz.e_s21, Dz.e_v22, Dz.e_s22, Dz.e_v23, Dz.e_s23, Dz.e_v24, Dz.e_s24, Dz.e_v25, Dz.e_s25, Dz.e_c, Dz.e_bin, Dz.e_un, Dz.e_test, Dz.e_tru, Dz.e_and, Dz.e_or, Dz.e_not, Dz.e_yes, Dz.e_andV, Dz.e_orV, Dz.e_notV, Dz.e_orT, Dz.e_andT, Dz.e_if, Dz.e_nil, Dz.e_cons, Dz.e_tup, Dz.e_lst, Dz.e_call, Dz.e_fn, Dz.e_chain, Dz.e_noP, Dz.e_part, Dz.e_sl, Dz.e_m1, Dz.e_m0, Dz.e_gv, Dz.e_gt, Dz.e_gc, Dz.e_gn, Dz.e_lc, Dz.e_w0, Dz.e_w1, Dz.e_list, Dz.e_tupI, Dz.e_strI, Dz.tru_bl, Dz.tru_int, Dz.tru_lst, Dz.tru_tup, Dz.tru_str, Dz.len_lst, Dz.len_tup, Dz.len_str, Dz.add_int', Dz.sub_int', Dz.lt_int', Dz.le_int', Dz.gt_int', Dz.ge_int', Dz.eq_int', Dz.ne_int', Dz.eq_str', Dz.ne_str', Dz.asBl_bl, Dz.asStr_str, Dz.asInt_int, Dz.asLst_lst, Dz.asTup_tup, Dz.add_str', Dz.add_lst', Dz.add_tup', Dz.mul_int', Dz.mul_str', Dz.mod_int'', Dz.div_int', Dz.ix_lst', Dz.ix_tup', Dz.ix_str', Dz.sl_lst', Dz.sl_tup', Dz.sl_str', Dz.neg_int', Dz.at0, Dz.at1, Dz.at2, Dz.at3, Dz.at4, Dz.at5, Dz.at6, Dz.at7, Dz.int_int', Dz.int_bl', Dz.tupF_lst, Dz.tupF_tup, Dz.lstF_lst, Dz.lstF_tup, Dz.is_bl', Dz.not_bl', Dz.take_eq, Dz.some_some, Dz.two_eq, List.length_cons, List.length_nil, List.map_cons, List.map_nil, List.append_nil, List.cons_append, List.nil_append, Nat.reduceAdd, Nat.reduceSub, Nat.reduceLeDiff, Nat.zero_add, Int.toNat_natCast, if_true, if_false, Bool.false_eq_true, Bool.not_true, Bool.not_false, true_and, and_true, ite_true, ite_false, isi_non_int, isi_non_bool, isi_non_str, isi_non_tuple, isi_non_list, isi_non_dict, isi_bl_int, isi_bl_bool, isi_bl_str, isi_bl_tuple, isi_bl_list, isi_bl_dict, isi_int_int, isi_int_bool, isi_int_str, isi_int_tuple, isi_int_list, isi_int_dict, isi_str_int, isi_str_bool, isi_str_str, isi_str_tuple, isi_str_list, isi_str_dict, isi_tup_int, isi_tup_bool, isi_tup_str, isi_tup_tuple, isi_tup_list, isi_tup_dict, isi_lst_int, isi_lst_bool, isi_lst_str, isi_lst_tuple, isi_lst_list, isi_lst_dict, isi_dic_int, isi_dic_bool, isi_dic_str, isi_dic_tuple, isi_dic_list, isi_dic_dict]
        refine isword (h.mem (by simp)) _ ?_
        simp -implicitDefEqProofs only [Dz.e_rng1, Dz.e_rngQ, Dz.e_seq, Dz.e_next, Dz.e_brk, Dz.e_cont, Dz.e_drop, Dz.e_ifS, Dz.e_asg, Dz.e_par, Dz.e_ret, Dz.e_retN, Dz.e_for, Dz.e_run1, Dz.e_run2, Dz.e_run3, Dz.e_run4, Dz.e_run5, Dz.e_run6, Dz.e_run7, Dz.e_run8, Dz.e_rep0, Dz.e_rep1, Dz.e_rep2, Dz.e_rep3, Dz.e_rep4, Dz.e_rep5, Dz.e_rep6, Dz.e_rep7, Dz.e_rep8, Dz.e_rep9, Dz.e_rep10, Dz.e_rep11, Dz.e_rep12, Dz.e_rep13, Dz.e_rep14, Dz.e_rep15, Dz.e_rep16, Dz.e_rep17, Dz.e_rep18, Dz.e_rep19, Dz.e_rep20, Dz.e_rep21, Dz.e_rep22, Dz.e_rep23, Dz.e_rep24, Dz.e_rep25, Dz.e_v0, Dz.e_s0, Dz.e_v1, Dz.e_s1, Dz.e_v2, Dz.e_s2, Dz.e_v3, Dz.e_s3, Dz.e_v4, Dz.e_s4, Dz.e_v5, Dz.e_s5, Dz.e_v6, Dz.e_s6, Dz.e_v7, Dz.e_s7, Dz.e_v8, Dz.e_s8, Dz.e_v9, Dz.e_s9, Dz.e_v10, Dz.e_s10, Dz.e_v11, Dz.e_s11, Dz.e_v12, Dz.e_s12, Dz.e_v13, Dz.e_s13, Dz.e_v14, Dz.e_s14, Dz.e_v15, Dz.e_s15, Dz.e_v16, Dz.e_s16, Dz.e_v17, Dz.e_s17, Dz.e_v18, Dz.e_s18, Dz.e_v19, Dz.e_s19, Dz.e_v20, Dz.e_s20, Dz.e_v21, Dz.e_s21, Dz.e_v22, Dz.e_s22, Dz.e_v23, Dz.e_s23, Dz.e_v24, Dz.e_s24, Dz.e_v25, Dz.e_s25, Dz.e_c, Dz.e_bin, Dz.e_un, Dz.e_test, Dz.e_tru, Dz.e_and, Dz.e_or, Dz.e_not, Dz.e_yes, Dz.e_andV, Dz.e_orV, Dz.e_notV, Dz.e_orT, Dz.e_andT, Dz.e_if, Dz.e_nil, Dz.e_cons, Dz.e_tup, Dz.e_lst, Dz.e_call, Dz.e_fn, Dz.e_chain, Dz.e_noP, Dz.e_part, Dz.e_sl, Dz.e_m1, Dz.e_m0, Dz.e_gv, Dz.e_gt, Dz.e_gc, Dz.e_gn, Dz.e_lc, Dz.e_w0, Dz.e_w1, Dz.e_list, Dz.e_tupI, Dz.e_strI, Dz.tru_bl, Dz.tru_int, Dz.tru_lst, Dz.tru_tup, Dz.tru_str, Dz.len_lst, Dz.len_tup, Dz.len_str, Dz.add_int', Dz.sub_int', Dz.lt_int', Dz.le_int', Dz.gt_int', Dz.ge_int', Dz.eq_int', Dz.ne_int', Dz.eq_str', Dz.ne_str', Dz.asBl_bl, Dz.asStr_str, Dz.asInt_int, Dz.asLst_lst, Dz.asTup_tup, Dz.add_str', Dz.add_lst', Dz.add_tup', Dz.mul_int', Dz.mul_str', Dz.mod_int'', Dz.div_int', Dz.ix_lst', Dz.ix_tup', Dz.ix_str', Dz.sl_lst', Dz.sl_tup', Dz.sl_str', Dz.neg_int', Dz.at0, Dz.at1, Dz.at2, Dz.at3, Dz.at4, Dz.at5, Dz.at6, Dz.at7, Dz.int_int', Dz.int_bl', Dz.tupF_lst, Dz.tupF_tup, Dz.lstF_lst, Dz.lstF_tup, Dz.is_bl', Dz.not_bl', Dz.take_eq, Dz.some_some, Dz.two_eq, List.length_cons, List.length_nil, List.map_cons, List.map_nil, List.append_nil, List.cons_append, List.nil_append, Nat.reduceAdd, Nat.reduceSub, Nat.reduceLeDiff, Nat.zero_add, Int.toNat_natCast, if_true, if_false, Bool.false_eq_true, Bool.not_true, Bool.not_false, true_and, and_true, ite_true, ite_false, isi_non_int, isi_non_bool, isi_non_str, isi_non_tuple, isi_non_list, isi_non_dict, isi_bl_int, isi_bl_bool, isi_bl_str, isi_bl_tuple, isi_bl_list, isi_bl_dict, isi_int_int, isi_int_bool, isi_int_str, isi_int_tuple, isi_int_list, isi_int_dict, isi_str_int, isi_str_bool, isi_str_str, isi_str_tuple, isi_str_list, isi_str_dict, isi_tup_int, isi_tup_bool, isi_tup_str, isi_tup_tuple, isi_tup_list, isi_tup_dict, isi_lst_int, isi_lst_bool, isi_lst_str, isi_lst_tuple, isi_lst_list, isi_lst_dict, isi_dic_int, isi_dic_bool, isi_dic_str, isi_dic_tuple, isi_dic_list, isi_dic_dict]
        replace q : Q (.bl (wd a && wd b)) := q
        cases c : wd a with
        | true => rw [c, Bool.true_and] at q; exact isword (h.mem (by simp)) _ q
        | false => rw [c, Bool.false_and] at q; exact q
    · rw [if_neg (by simp; omega)]
      have : hd2 wd wd (.tup xs) = false := by
        unfold hd2
        split
        · rename_i e; cases e; exact absurd rfl l
        · rfl
      rw [this] at q; exact q
  | obj | ty | cls | bag => exact absurd h.1 (by simp [pq, D.pl, D.pd])
  | _ => unfold m_is_pair; simp -implicitDefEqProofs only [Dz.e_rng1, Dz.e_rngQ, Dz.e_seq, Dz.e_next, Dz.e_brk, Dz.e_cont, Dz.e_drop, Dz.e_ifS, Dz.e_asg, Dz.e_par, Dz.e_ret, Dz.e_retN, Dz.e_for, Dz.e_run1, Dz.e_run2, Dz.e_run3, Dz.e_run4, Dz.e_run5, Dz.e_run6, Dz.e_run7, Dz.e_run8, Dz.e_rep0, Dz.e_rep1, Dz.e_rep2, Dz.e_rep3, Dz.e_rep4, Dz.e_rep5, Dz.e_rep6, Dz.e_rep7, Dz.e_rep8, Dz.e_rep9, Dz.e_rep10, Dz.e_rep11, Dz.e_rep12, Dz.e_rep13, Dz.e_rep14, Dz.e_rep15, Dz.e_rep16, Dz.e_rep17, Dz.e_rep18, Dz.e_rep19, Dz.e_rep20, Dz.e_rep21, Dz.e_rep22, Dz.e_rep23, Dz.e_rep24, Dz.e_rep25, Dz.e_v0, Dz.e_s0, Dz.e_v1, Dz.e_s1, Dz.e_v2, Dz.e_s2, Dz.e_v3, Dz.e_s3, Dz.e_v4, Dz.e_s4, Dz.e_v5, Dz.e_s5, Dz.e_v6, Dz.e_s6, Dz.e_v7, Dz.e_s7, Dz.e_v8, Dz.e_s8, Dz.e_v9, Dz.e_s9, Dz.e_v10, Dz.e_s10, Dz.e_v11, Dz.e_s11, Dz.e_v12, Dz.e_s12, Dz.e_v13, Dz.e_s13, Dz.e_v14, Dz.e_s14, Dz.e_v15, Dz.e_s15, Dz.e_v16, Dz.e_s16, Dz.e_v17, Dz.e_s17, Dz.e_v18, Dz.e_s18, Dz.e_v19, Dz.e_s19, Dz.e_v20, Dz.e_s20, Dz.e_v21, Dz.e_s21, Dz.e_v22, Dz.e_s22, Dz.e_v23, Dz.e_s23, Dz.e_v24, Dz.e_s24, Dz.e_v25, Dz.e_s25, Dz.e_c, Dz.e_bin, Dz.e_un, Dz.e_test, Dz.e_tru, Dz.e_and, Dz.e_or, Dz.e_not, Dz.e_yes, Dz.e_andV, Dz.e_orV, Dz.e_notV, Dz.e_orT, Dz.e_andT, Dz.e_if, Dz.e_nil, Dz.e_cons, Dz.e_tup, Dz.e_lst, Dz.e_call, Dz.e_fn, Dz.e_chain, Dz.e_noP, Dz.e_part, Dz.e_sl, Dz.e_m1, Dz.e_m0, Dz.e_gv, Dz.e_gt, Dz.e_gc, Dz.e_gn, Dz.e_lc, Dz.e_w0, Dz.e_w1, Dz.e_list, Dz.e_tupI, Dz.e_strI, Dz.tru_bl, Dz.tru_int, Dz.tru_lst, Dz.tru_tup, Dz.tru_str, Dz.len_lst, Dz.len_tup, Dz.len_str, Dz.add_int', Dz.sub_int', Dz.lt_int', Dz.le_int', Dz.gt_int', Dz.ge_int', Dz.eq_int', Dz.ne_int', Dz.eq_str', Dz.ne_str', Dz.asBl_bl, Dz.asStr_str, Dz.asInt_int, Dz.asLst_lst, Dz.asTup_tup, Dz.add_str', Dz.add_lst', Dz.add_tup', Dz.mul_int', Dz.mul_str', Dz.mod_int'', Dz.div_int', Dz.ix_lst', Dz.ix_tup', Dz.ix_str', Dz.sl_lst', Dz.sl_tup', Dz.sl_str', Dz.neg_int', Dz.at0, Dz.at1, Dz.at2, Dz.at3, Dz.at4, Dz.at5, Dz.at6, Dz.at7, Dz.int_int', Dz.int_bl', Dz.tupF_lst, Dz.tupF_tup, Dz.lstF_lst, Dz.lstF_tup, Dz.is_bl', Dz.not_bl', Dz.take_eq, Dz.some_some, Dz.two_eq, List.length_cons, List.length_nil, List.map_cons, List.map_nil, List.append_nil, List.cons_append, List.nil_append, Nat.reduceAdd, Nat.reduceSub, Nat.reduceLeDiff, Nat.zero_add, Int.toNat_natCast, if_true, if_false, Bool.false_eq_true, Bool.not_true, Bool.not_false, true_and, and_true, ite_true, ite_false, isi_non_int, isi_non_bool, isi_non_str, isi_non_tuple, isi_non_list, isi_non_dict, isi_bl_int, isi_bl_bool, isi_bl_str, isi_bl_tuple, isi_bl_list, isi_bl_dict, isi_int_int, isi_int_bool, isi_int_str, isi_int_tuple, isi_int_list, isi_int_dict, isi_str_int, isi_str_bool, isi_str_str, isi_str_tuple, isi_str_list, isi_str_dict, isi_tup_int, isi_tup_bool, isi_tup_str, isi_tup_tuple, isi_tup_list, isi_tup_dict, isi_lst_int, isi_lst_bool, isi_lst_str, isi_lst_tuple, isi_lst_list, isi_lst_dict, isi_dic_int, isi_dic_bool, isi_dic_str, isi_dic_tuple, isi_dic_list, isi_dic_dict]; exact q
def seven (d : D) : D := .lst [.bl (isI d), .bl (wd d), .bl (nm d), .bl (hd2 nm wd d), .bl (iw 0 1000000000 d), .bl (ct d), .bl (hd2 wd wd d)]
theorem asked {d : D} (h : Sm d) (Q : D → Prop) (q : Q (seven d)) : m__law_asked [d] Q := by
  unfold m__law_asked
  simp -implicitDefEqProofs only [Dz.e_rng1, Dz.e_rngQ, Dz.e_seq, Dz.e_next, Dz.e_brk, Dz.e_cont, Dz.e_drop, Dz.e_ifS, Dz.e_asg, Dz.e_par, Dz.e_ret, Dz.e_retN, Dz.e_for, Dz.e_run1, Dz.e_run2, Dz.e_run3, Dz.e_run4, Dz.e_run5, Dz.e_run6, Dz.e_run7, Dz.e_run8, Dz.e_rep0, Dz.e_rep1, Dz.e_rep2, Dz.e_rep3, Dz.e_rep4, Dz.e_rep5, Dz.e_rep6, Dz.e_rep7, Dz.e_rep8, Dz.e_rep9, Dz.e_rep10, Dz.e_rep11, Dz.e_rep12, Dz.e_rep13, Dz.e_rep14, Dz.e_rep15, Dz.e_rep16, Dz.e_rep17, Dz.e_rep18, Dz.e_rep19, Dz.e_rep20, Dz.e_rep21, Dz.e_rep22, Dz.e_rep23, Dz.e_rep24, Dz.e_rep25, Dz.e_v0, Dz.e_s0, Dz.e_v1, Dz.e_s1, Dz.e_v2, Dz.e_s2, Dz.e_v3, Dz.e_s3, Dz.e_v4, Dz.e_s4, Dz.e_v5, Dz.e_s5, Dz.e_v6, Dz.e_s6, Dz.e_v7, Dz.e_s7, Dz.e_v8, Dz.e_s8, Dz.e_v9, Dz.e_s9, Dz.e_v10, Dz.e_s10, Dz.e_v11, Dz.e_s11, Dz.e_v12, Dz.e_s12, Dz.e_v13, Dz.e_s13, Dz.e_v14, Dz.e_s14, Dz.e_v15, Dz.e_s15, Dz.e_v16, Dz.e_s16, Dz.e_v17, Dz.e_s17, Dz.e_v18, Dz.e_s18, Dz.e_v19, Dz.e_s19, Dz.e_v20, Dz.e_s20, Dz.e_v21, Dz.e_s21, Dz.e_v22, Dz.e_s22, Dz.e_v23, Dz.e_s23, Dz.e_v24, Dz.e_s24, Dz.e_v25, Dz.e_s25, Dz.e_c, Dz.e_bin, Dz.e_un, Dz.e_test, Dz.e_tru, Dz.e_and, Dz.e_or, Dz.e_not, Dz.e_yes, Dz.e_andV, Dz.e_orV, Dz.e_notV, Dz.e_orT, Dz.e_andT, Dz.e_if, Dz.e_nil, Dz.e_cons, Dz.e_tup, Dz.e_lst, Dz.e_call, Dz.e_fn, Dz.e_chain, Dz.e_noP, Dz.e_part, Dz.e_sl, Dz.e_m1, Dz.e_m0, Dz.e_gv, Dz.e_gt, Dz.e_gc, Dz.e_gn, Dz.e_lc, Dz.e_w0, Dz.e_w1, Dz.e_list, Dz.e_tupI, Dz.e_strI, Dz.tru_bl, Dz.tru_int, Dz.tru_lst, Dz.tru_tup, Dz.tru_str, Dz.len_lst, Dz.len_tup, Dz.len_str, Dz.add_int', Dz.sub_int', Dz.lt_int', Dz.le_int', Dz.gt_int', Dz.ge_int', Dz.eq_int', Dz.ne_int', Dz.eq_str', Dz.ne_str', Dz.asBl_bl, Dz.asStr_str, Dz.asInt_int, Dz.asLst_lst, Dz.asTup_tup, Dz.add_str', Dz.add_lst', Dz.add_tup', Dz.mul_int', Dz.mul_str', Dz.mod_int'', Dz.div_int', Dz.ix_lst', Dz.ix_tup', Dz.ix_str', Dz.sl_lst', Dz.sl_tup', Dz.sl_str', Dz.neg_int', Dz.at0, Dz.at1, Dz.at2, Dz.at3, Dz.at4, Dz.at5, Dz.at6, Dz.at7, Dz.int_int', Dz.int_bl', Dz.tupF_lst, Dz.tupF_tup, Dz.lstF_lst, Dz.lstF_tup, Dz.is_bl', Dz.not_bl', Dz.take_eq, Dz.some_some, Dz.two_eq, List.length_cons, List.length_nil, List.map_cons, List.map_nil, List.append_nil, List.cons_append, List.nil_append, Nat.reduceAdd, Nat.reduceSub, Nat.reduceLeDiff, Nat.zero_add, Int.toNat_natCast, if_true, if_false, Bool.false_eq_true, Bool.not_true, Bool.not_false, true_and, and_true, ite_true, ite_false, isi_non_int, isi_non_bool, isi_non_str, isi_non_tuple, isi_non_list, isi_non_dict, isi_bl_int, isi_bl_bool, isi_bl_str, isi_bl_tuple, isi_bl_list, isi_bl_dict, isi_int_int, isi_int_bool, isi_int_str, isi_int_tuple, isi_int_list, isi_int_dict, isi_str_int, isi_str_bool, isi_str_str, isi_str_tuple, isi_str_list, isi_str_dict, isi_tup_int, isi_tup_bool, isi_tup_str, isi_tup_tuple, isi_tup_list, isi_tup_dict, isi_lst_int, isi_lst_bool, isi_lst_str, isi_lst_tuple, isi_lst_list, isi_lst_dict, isi_dic_int, isi_dic_bool, isi_dic_str, isi_dic_tuple, isi_dic_list, isi_dic_dict]
  refine isint h _ (isword h _ (isname h _ (isholder h _ ?_)))
  refine ⟨by decide, isday h _ (iscount h _ (ispair h _ ⟨by decide, by decide, ?_⟩))⟩
  exact q
theorem due {d : D} (h : Sm d) (hi : iw (-(10 ^ 60)) (10 ^ 60) d = isI d) (Q : D → Prop) (q : Q (seven d)) : m__law_due [d] Q := by
  unfold m__law_due
  simp -implicitDefEqProofs only [Dz.e_rng1, Dz.e_rngQ, Dz.e_seq, Dz.e_next, Dz.e_brk, Dz.e_cont, Dz.e_drop, Dz.e_ifS, Dz.e_asg, Dz.e_par, Dz.e_ret, Dz.e_retN, Dz.e_for, Dz.e_run1, Dz.e_run2, Dz.e_run3, Dz.e_run4, Dz.e_run5, Dz.e_run6, Dz.e_run7, Dz.e_run8, Dz.e_rep0, Dz.e_rep1, Dz.e_rep2, Dz.e_rep3, Dz.e_rep4, Dz.e_rep5, Dz.e_rep6, Dz.e_rep7, Dz.e_rep8, Dz.e_rep9, Dz.e_rep10, Dz.e_rep11, Dz.e_rep12, Dz.e_rep13, Dz.e_rep14, Dz.e_rep15, Dz.e_rep16, Dz.e_rep17, Dz.e_rep18, Dz.e_rep19, Dz.e_rep20, Dz.e_rep21, Dz.e_rep22, Dz.e_rep23, Dz.e_rep24, Dz.e_rep25, Dz.e_v0, Dz.e_s0, Dz.e_v1, Dz.e_s1, Dz.e_v2, Dz.e_s2, Dz.e_v3, Dz.e_s3, Dz.e_v4, Dz.e_s4, Dz.e_v5, Dz.e_s5, Dz.e_v6, Dz.e_s6, Dz.e_v7, Dz.e_s7, Dz.e_v8, Dz.e_s8, Dz.e_v9, Dz.e_s9, Dz.e_v10, Dz.e_s10, Dz.e_v11, Dz.e_s11, Dz.e_v12, Dz.e_s12, Dz.e_v13, Dz.e_s13, Dz.e_v14, Dz.e_s14, Dz.e_v15, Dz.e_s15, Dz.e_v16, Dz.e_s16, Dz.e_v17, Dz.e_s17, Dz.e_v18, Dz.e_s18, Dz.e_v19, Dz.e_s19, Dz.e_v20, Dz.e_s20, Dz.e_v21, Dz.e_s21, Dz.e_v22, Dz.e_s22, Dz.e_v23, Dz.e_s23, Dz.e_v24, Dz.e_s24, Dz.e_v25, Dz.e_s25, Dz.e_c, Dz.e_bin, Dz.e_un, Dz.e_test, Dz.e_tru, Dz.e_and, Dz.e_or, Dz.e_not, Dz.e_yes, Dz.e_andV, Dz.e_orV, Dz.e_notV, Dz.e_orT, Dz.e_andT, Dz.e_if, Dz.e_nil, Dz.e_cons, Dz.e_tup, Dz.e_lst, Dz.e_call, Dz.e_fn, Dz.e_chain, Dz.e_noP, Dz.e_part, Dz.e_sl, Dz.e_m1, Dz.e_m0, Dz.e_gv, Dz.e_gt, Dz.e_gc, Dz.e_gn, Dz.e_lc, Dz.e_w0, Dz.e_w1, Dz.e_list, Dz.e_tupI, Dz.e_strI, Dz.tru_bl, Dz.tru_int, Dz.tru_lst, Dz.tru_tup, Dz.tru_str, Dz.len_lst, Dz.len_tup, Dz.len_str, Dz.add_int', Dz.sub_int', Dz.lt_int', Dz.le_int', Dz.gt_int', Dz.ge_int', Dz.eq_int', Dz.ne_int', Dz.eq_str', Dz.ne_str', Dz.asBl_bl, Dz.asStr_str, Dz.asInt_int, Dz.asLst_lst, Dz.asTup_tup, Dz.add_str', Dz.add_lst', Dz.add_tup', Dz.mul_int', Dz.mul_str', Dz.mod_int'', Dz.div_int', Dz.ix_lst', Dz.ix_tup', Dz.ix_str', Dz.sl_lst', Dz.sl_tup', Dz.sl_str', Dz.neg_int', Dz.at0, Dz.at1, Dz.at2, Dz.at3, Dz.at4, Dz.at5, Dz.at6, Dz.at7, Dz.int_int', Dz.int_bl', Dz.tupF_lst, Dz.tupF_tup, Dz.lstF_lst, Dz.lstF_tup, Dz.is_bl', Dz.not_bl', Dz.take_eq, Dz.some_some, Dz.two_eq, List.length_cons, List.length_nil, List.map_cons, List.map_nil, List.append_nil, List.cons_append, List.nil_append, Nat.reduceAdd, Nat.reduceSub, Nat.reduceLeDiff, Nat.zero_add, Int.toNat_natCast, if_true, if_false, Bool.false_eq_true, Bool.not_true, Bool.not_false, true_and, and_true, ite_true, ite_false, isi_non_int, isi_non_bool, isi_non_str, isi_non_tuple, isi_non_list, isi_non_dict, isi_bl_int, isi_bl_bool, isi_bl_str, isi_bl_tuple, isi_bl_list, isi_bl_dict, isi_int_int, isi_int_bool, isi_int_str, isi_int_tuple, isi_int_list, isi_int_dict, isi_str_int, isi_str_bool, isi_str_str, isi_str_tuple, isi_str_list, isi_str_dict, isi_tup_int, isi_tup_bool, isi_tup_str, isi_tup_tuple, isi_tup_list, isi_tup_dict, isi_lst_int, isi_lst_bool, isi_lst_str, isi_lst_tuple, isi_lst_list, isi_lst_dict, isi_dic_int, isi_dic_bool, isi_dic_str, isi_dic_tuple, isi_dic_list, isi_dic_dict, is_non, pow_int]
  refine two h nm wd _ _ lname lword _ ?_
  refine two h wd wd _ _ lword lword _ ?_
  have p60 : (0 : Int) ≤ 60 ∧ (60 : Int) ≤ 1000000 ∧ Int.natAbs 10 < 2 ^ 64 := ⟨by decide, by decide, by decide⟩
  refine ⟨p60, p60, lwithin h _ _ _ (lword h _ (lname h _ ⟨by decide, ⟨by decide, by decide, by decide⟩, lwithin h _ _ _ ?_⟩))⟩
  rw [show (-(10 : Int) ^ Int.toNat 60) = -(10 ^ 60) from rfl, show ((10 : Int) ^ Int.toNat 60) = 10 ^ 60 from rfl, hi, show ((10 : Int) ^ Int.toNat 9) = 1000000000 by decide]
  have fin : ∀ c, c = ct d → Q (.lst [.bl (isI d), .bl (wd d), .bl (nm d), .bl (hd2 nm wd d), .bl (iw 0 1000000000 d), .bl c, .bl (hd2 wd wd d)]) := fun c e => by rw [e]; exact q
  by_cases n : isNone d = true
  · rw [if_pos n]
    exact ⟨by decide, by decide, fin true (by unfold ct; rw [n, Bool.true_or])⟩
  · rw [if_neg n]
    refine lwithin h _ _ _ ⟨by decide, by decide, fin _ ?_⟩
    unfold ct
    rw [Bool.eq_false_iff.mpr n, Bool.false_or]
/-! ### what may be shown -/
theorem shown_ok {d : D} (h : pq d = true) (hl : PyData.leavesShort 60 d.py = true) (hs : d.py.showable = true) (hd : d.py.depth ≤ 60) (hw : d.py.weight ≤ 100000) (Q : D → Prop) (q : Q (.str d.py.shown)) : reprG [d] Q := by
  refine ⟨⟨h, hs, hd, ?_⟩, q⟩
  have := PyData.shown_le 60 (by decide) d.py hl
  rw [sizeLine_eq]
  omega
theorem seven_ok (d : D) (Q : D → Prop) (q : Q (.str (seven d).py.shown)) : reprG [seven d] Q := by
  refine shown_ok ?_ ?_ ?_ ?_ ?_ Q q
  · simp [seven, pq, D.pl, D.plAll]
  · simp [seven, D.py, D.pyAll, PyData.leavesShort, PyData.leavesShortAll]
  · simp [seven, D.py, D.pyAll, PyData.showable, PyData.showableAll]
  · simp [seven, D.py, D.pyAll, PyData.depth, PyData.depthAll]
  · simp [seven, D.py, D.pyAll, PyData.weight, PyData.weightAll]
/-- a thing of the law -/
structure Th (n w : Nat) (d : D) : Prop where
  hp : pq d = true
  hl : PyData.leavesShort 60 d.py = true
  hs : d.py.showable = true
  hd : d.py.depth ≤ n
  hw : d.py.weight ≤ w
def thing_ok (d : D) : Prop := Th 10 60000 d ∧ iw (-(10 ^ 60)) (10 ^ 60) d = isI d
theorem law_of (H : ∀ Q : D → Prop, (∀ d, thing_ok d → Q d) → m__law_thing [.bag] Q) : m_law { nx := fun _ => False, rt := fun d => d = .bl true } law0 := by
  unfold m_law law0
  simp -implicitDefEqProofs only [Dz.e_rng1, Dz.e_rngQ, Dz.e_seq, Dz.e_next, Dz.e_brk, Dz.e_cont, Dz.e_drop, Dz.e_ifS, Dz.e_asg, Dz.e_par, Dz.e_ret, Dz.e_retN, Dz.e_for, Dz.e_run1, Dz.e_run2, Dz.e_run3, Dz.e_run4, Dz.e_run5, Dz.e_run6, Dz.e_run7, Dz.e_run8, Dz.e_rep0, Dz.e_rep1, Dz.e_rep2, Dz.e_rep3, Dz.e_rep4, Dz.e_rep5, Dz.e_rep6, Dz.e_rep7, Dz.e_rep8, Dz.e_rep9, Dz.e_rep10, Dz.e_rep11, Dz.e_rep12, Dz.e_rep13, Dz.e_rep14, Dz.e_rep15, Dz.e_rep16, Dz.e_rep17, Dz.e_rep18, Dz.e_rep19, Dz.e_rep20, Dz.e_rep21, Dz.e_rep22, Dz.e_rep23, Dz.e_rep24, Dz.e_rep25, Dz.e_v0, Dz.e_s0, Dz.e_v1, Dz.e_s1, Dz.e_v2, Dz.e_s2, Dz.e_v3, Dz.e_s3, Dz.e_v4, Dz.e_s4, Dz.e_v5, Dz.e_s5, Dz.e_v6, Dz.e_s6, Dz.e_v7, Dz.e_s7, Dz.e_v8, Dz.e_s8, Dz.e_v9, Dz.e_s9, Dz.e_v10, Dz.e_s10, Dz.e_v11, Dz.e_s11, Dz.e_v12, Dz.e_s12, Dz.e_v13, Dz.e_s13, Dz.e_v14, Dz.e_s14, Dz.e_v15, Dz.e_s15, Dz.e_v16, Dz.e_s16, Dz.e_v17, Dz.e_s17, Dz.e_v18, Dz.e_s18, Dz.e_v19, Dz.e_s19, Dz.e_v20, Dz.e_s20, Dz.e_v21, Dz.e_s21, Dz.e_v22, Dz.e_s22, Dz.e_v23, Dz.e_s23, Dz.e_v24, Dz.e_s24, Dz.e_v25, Dz.e_s25, Dz.e_c, Dz.e_bin, Dz.e_un, Dz.e_test, Dz.e_tru, Dz.e_and, Dz.e_or, Dz.e_not, Dz.e_yes, Dz.e_andV, Dz.e_orV, Dz.e_notV, Dz.e_orT, Dz.e_andT, Dz.e_if, Dz.e_nil, Dz.e_cons, Dz.e_tup, Dz.e_lst, Dz.e_call, Dz.e_fn, Dz.e_chain, Dz.e_noP, Dz.e_part, Dz.e_sl, Dz.e_m1, Dz.e_m0, Dz.e_gv, Dz.e_gt, Dz.e_gc, Dz.e_gn, Dz.e_lc, Dz.e_w0, Dz.e_w1, Dz.e_list, Dz.e_tupI, Dz.e_strI, Dz.tru_bl, Dz.tru_int, Dz.tru_lst, Dz.tru_tup, Dz.tru_str, Dz.len_lst, Dz.len_tup, Dz.len_str, Dz.add_int', Dz.sub_int', Dz.lt_int', Dz.le_int', Dz.gt_int', Dz.ge_int', Dz.eq_int', Dz.ne_int', Dz.eq_str', Dz.ne_str', Dz.asBl_bl, Dz.asStr_str, Dz.asInt_int, Dz.asLst_lst, Dz.asTup_tup, Dz.add_str', Dz.add_lst', Dz.add_tup', Dz.mul_int', Dz.mul_str', Dz.mod_int'', Dz.div_int', Dz.ix_lst', Dz.ix_tup', Dz.ix_str', Dz.sl_lst', Dz.sl_tup', Dz.sl_str', Dz.neg_int', Dz.at0, Dz.at1, Dz.at2, Dz.at3, Dz.at4, Dz.at5, Dz.at6, Dz.at7, Dz.int_int', Dz.int_bl', Dz.tupF_lst, Dz.tupF_tup, Dz.lstF_lst, Dz.lstF_tup, Dz.is_bl', Dz.not_bl', Dz.take_eq, Dz.some_some, Dz.two_eq, List.length_cons, List.length_nil, List.map_cons, List.map_nil, List.append_nil, List.cons_append, List.nil_append, Nat.reduceAdd, Nat.reduceSub, Nat.reduceLeDiff, Nat.zero_add, Int.toNat_natCast, if_true, if_false, Bool.false_eq_true, Bool.not_true, Bool.not_false, true_and, and_true, ite_true, ite_false, isi_non_int, isi_non_bool, isi_non_str, isi_non_tuple, isi_non_list, isi_non_dict, isi_bl_int, isi_bl_bool, isi_bl_str, isi_bl_tuple, isi_bl_list, isi_bl_dict, isi_int_int, isi_int_bool, isi_int_str, isi_int_tuple, isi_int_list, isi_int_dict, isi_str_int, isi_str_bool, isi_str_str, isi_str_tuple, isi_str_list, isi_str_dict, isi_tup_int, isi_tup_bool, isi_tup_str, isi_tup_tuple, isi_tup_list, isi_tup_dict, isi_lst_int, isi_lst_bool, isi_lst_str, isi_lst_tuple, isi_lst_list, isi_lst_dict, isi_dic_int, isi_dic_bool, isi_dic_str, isi_dic_tuple, isi_dic_list, isi_dic_dict]
  refine ⟨by decide, by decide, ?_⟩
  refine for_inv (fun _ ρ => ∃ x2 x3 x4 x5 x6, ρ = [Slot.no, .val .bag, x2, x3, x4, x5, x6]) _ _ ⟨.no, .no, .no, .no, .no, rfl⟩ (fun _ _ => trivial) (fun z zs ρ N hI hN => ?_)
  obtain ⟨x2, x3, x4, x5, x6, rfl⟩ := hI
  simp -implicitDefEqProofs only [Dz.e_rng1, Dz.e_rngQ, Dz.e_seq, Dz.e_next, Dz.e_brk, Dz.e_cont, Dz.e_drop, Dz.e_ifS, Dz.e_asg, Dz.e_par, Dz.e_ret, Dz.e_retN, Dz.e_for, Dz.e_run1, Dz.e_run2, Dz.e_run3, Dz.e_run4, Dz.e_run5, Dz.e_run6, Dz.e_run7, Dz.e_run8, Dz.e_rep0, Dz.e_rep1, Dz.e_rep2, Dz.e_rep3, Dz.e_rep4, Dz.e_rep5, Dz.e_rep6, Dz.e_rep7, Dz.e_rep8, Dz.e_rep9, Dz.e_rep10, Dz.e_rep11, Dz.e_rep12, Dz.e_rep13, Dz.e_rep14, Dz.e_rep15, Dz.e_rep16, Dz.e_rep17, Dz.e_rep18, Dz.e_rep19, Dz.e_rep20, Dz.e_rep21, Dz.e_rep22, Dz.e_rep23, Dz.e_rep24, Dz.e_rep25, Dz.e_v0, Dz.e_s0, Dz.e_v1, Dz.e_s1, Dz.e_v2, Dz.e_s2, Dz.e_v3, Dz.e_s3, Dz.e_v4, Dz.e_s4, Dz.e_v5, Dz.e_s5, Dz.e_v6, Dz.e_s6, Dz.e_v7, Dz.e_s7, Dz.e_v8, Dz.e_s8, Dz.e_v9, Dz.e_s9, Dz.e_v10, Dz.e_s10, Dz.e_v11, Dz.e_s11, Dz.e_v12, Dz.e_s12, Dz.e_v13, Dz.e_s13, Dz.e_v14, Dz.e_s14, Dz.e_v15, Dz.e_s15, Dz.e_v16, Dz.e_s16, Dz.e_v17, Dz.e_s17, Dz.e_v18, Dz.e_s18, Dz.e_v19, Dz.e_s19, Dz.e_v20, Dz.e_s20, Dz.e_v21, Dz.e_s21, Dz.e_v22, Dz.e_s22, Dz.e_v23, Dz.e_s23, Dz.e_v24, Dz.e_s24, Dz.e_v25, Dz.e_s25, Dz.e_c, Dz.e_bin, Dz.e_un, Dz.e_test, Dz.e_tru, Dz.e_and, Dz.e_or, Dz.e_not, Dz.e_yes, Dz.e_andV, Dz.e_orV, Dz.e_notV, Dz.e_orT, Dz.e_andT, Dz.e_if, Dz.e_nil, Dz.e_cons, Dz.e_tup, Dz.e_lst, Dz.e_call, Dz.e_fn, Dz.e_chain, Dz.e_noP, Dz.e_part, Dz.e_sl, Dz.e_m1, Dz.e_m0, Dz.e_gv, Dz.e_gt, Dz.e_gc, Dz.e_gn, Dz.e_lc, Dz.e_w0, Dz.e_w1, Dz.e_list, Dz.e_tupI, Dz.e_strI, Dz.tru_bl, Dz.tru_int, Dz.tru_lst, Dz.tru_tup, Dz.tru_str, Dz.len_lst, Dz.len_tup, Dz.len_str, Dz.add_int', Dz.sub_int', Dz.lt_int', Dz.le_int', Dz.gt_int', Dz.ge_int', Dz.eq_int', Dz.ne_int', Dz.eq_str', Dz.ne_str', Dz.asBl_bl, Dz.asStr_str, Dz.asInt_int, Dz.asLst_lst, Dz.asTup_tup, Dz.add_str', Dz.add_lst', Dz.add_tup', Dz.mul_int', Dz.mul_str', Dz.mod_int'', Dz.div_int', Dz.ix_lst', Dz.ix_tup', Dz.ix_str', Dz.sl_lst', Dz.sl_tup', Dz.sl_str', Dz.neg_int', Dz.at0, Dz.at1, Dz.at2, Dz.at3, Dz.at4, Dz.at5, Dz.at6, Dz.at7, Dz.int_int', Dz.int_bl', Dz.tupF_lst, Dz.tupF_tup, Dz.lstF_lst, Dz.lstF_tup, Dz.is_bl', Dz.not_bl', Dz.take_eq, Dz.some_some, Dz.two_eq, List.length_cons, List.length_nil, List.map_cons, List.map_nil, List.append_nil, List.cons_append, List.nil_append, Nat.reduceAdd, Nat.reduceSub, Nat.reduceLeDiff, Nat.zero_add, Int.toNat_natCast, if_true, if_false, Bool.false_eq_true, Bool.not_true, Bool.not_false, true_and, and_true, ite_true, ite_false, isi_non_int, isi_non_bool, isi_non_str, isi_non_tuple, isi_non_list, isi_non_dict, isi_bl_int, isi_bl_bool, isi_bl_str, isi_bl_tuple, isi_bl_list, isi_bl_dict, isi_int_int, isi_int_bool, isi_int_str, isi_int_tuple, isi_int_list, isi_int_dict, isi_str_int, isi_str_bool, isi_str_str, isi_str_tuple, isi_str_list, isi_str_dict, isi_tup_int, isi_tup_bool, isi_tup_str, isi_tup_tuple, isi_tup_list, isi_tup_dict, isi_lst_int, isi_lst_bool, isi_lst_str, isi_lst_tuple, isi_lst_list, isi_lst_dict, isi_dic_int, isi_dic_bool, isi_dic_str, isi_dic_tuple, isi_dic_list, isi_dic_dict]
  refine H _ fun d hd => ?_
  obtain ⟨t, hi⟩ := hd
  have sm : Sm d := ⟨t.hp, by have := t.hw; omega⟩
  have rep : ∀ Q : D → Prop, Q (.str d.py.shown) → reprG [d] Q := fun Q q => shown_ok t.hp t.hl t.hs (by have := t.hd; omega) (by have := t.hw; omega) Q q
  refine rep _ (due sm hi _ (seven_ok d _ ⟨by decide, by decide, ?_⟩))
  refine for_inv (fun _ ρ => ∃ x6, ρ = [Slot.no, .val .bag, .val z, .val d, .val (.str d.py.shown), .val (.str (seven d).py.shown), x6]) _ _ ⟨x6, rfl⟩ (fun ρ hρ => ?_) (fun y ys ρ N' hI hN' => ?_)
  · obtain ⟨x6, rfl⟩ := hρ
    exact hN _ ⟨_, _, _, _, _, rfl⟩
  · obtain ⟨x6, rfl⟩ := hI
    simp -implicitDefEqProofs only [Dz.e_rng1, Dz.e_rngQ, Dz.e_seq, Dz.e_next, Dz.e_brk, Dz.e_cont, Dz.e_drop, Dz.e_ifS, Dz.e_asg, Dz.e_par, Dz.e_ret, Dz.e_retN, Dz.e_for, Dz.e_run1, Dz.e_run2, Dz.e_run3, Dz.e_run4, Dz.e_run5, Dz.e_run6, Dz.e_run7, Dz.e_run8, Dz.e_rep0, Dz.e_rep1, Dz.e_rep2, Dz.e_rep3, Dz.e_rep4, Dz.e_rep5, Dz.e_rep6, Dz.e_rep7, Dz.e_rep8, Dz.e_rep9, Dz.e_rep10, Dz.e_rep11, Dz.e_rep12, Dz.e_rep13, Dz.e_rep14, Dz.e_rep15, Dz.e_rep16, Dz.e_rep17, Dz.e_rep18, Dz.e_rep19, Dz.e_rep20, Dz.e_rep21, Dz.e_rep22, Dz.e_rep23, Dz.e_rep24, Dz.e_rep25, Dz.e_v0, Dz.e_s0, Dz.e_v1, Dz.e_s1, Dz.e_v2, Dz.e_s2, Dz.e_v3, Dz.e_s3, Dz.e_v4, Dz.e_s4, Dz.e_v5, Dz.e_s5, Dz.e_v6, Dz.e_s6, Dz.e_v7, Dz.e_s7, Dz.e_v8, Dz.e_s8, Dz.e_v9, Dz.e_s9, Dz.e_v10, Dz.e_s10, Dz.e_v11, Dz.e_s11, Dz.e_v12, Dz.e_s12, Dz.e_v13, Dz.e_s13, Dz.e_v14, Dz.e_s14, Dz.e_v15, Dz.e_s15, Dz.e_v16, Dz.e_s16, Dz.e_v17, Dz.e_s17, Dz.e_v18, Dz.e_s18, Dz.e_v19, Dz.e_s19, Dz.e_v20, Dz.e_s20, Dz.e_v21, Dz.e_s21, Dz.e_v22, Dz.e_s22, Dz.e_v23, Dz.e_s23, Dz.e_v24, Dz.e_s24, Dz.e_v25, Dz.e_s25, Dz.e_c, Dz.e_bin, Dz.e_un, Dz.e_test, Dz.e_tru, Dz.e_and, Dz.e_or, Dz.e_not, Dz.e_yes, Dz.e_andV, Dz.e_orV, Dz.e_notV, Dz.e_orT, Dz.e_andT, Dz.e_if, Dz.e_nil, Dz.e_cons, Dz.e_tup, Dz.e_lst, Dz.e_call, Dz.e_fn, Dz.e_chain, Dz.e_noP, Dz.e_part, Dz.e_sl, Dz.e_m1, Dz.e_m0, Dz.e_gv, Dz.e_gt, Dz.e_gc, Dz.e_gn, Dz.e_lc, Dz.e_w0, Dz.e_w1, Dz.e_list, Dz.e_tupI, Dz.e_strI, Dz.tru_bl, Dz.tru_int, Dz.tru_lst, Dz.tru_tup, Dz.tru_str, Dz.len_lst, Dz.len_tup, Dz.len_str, Dz.add_int', Dz.sub_int', Dz.lt_int', Dz.le_int', Dz.gt_int', Dz.ge_int', Dz.eq_int', Dz.ne_int', Dz.eq_str', Dz.ne_str', Dz.asBl_bl, Dz.asStr_str, Dz.asInt_int, Dz.asLst_lst, Dz.asTup_tup, Dz.add_str', Dz.add_lst', Dz.add_tup', Dz.mul_int', Dz.mul_str', Dz.mod_int'', Dz.div_int', Dz.ix_lst', Dz.ix_tup', Dz.ix_str', Dz.sl_lst', Dz.sl_tup', Dz.sl_str', Dz.neg_int', Dz.at0, Dz.at1, Dz.at2, Dz.at3, Dz.at4, Dz.at5, Dz.at6, Dz.at7, Dz.int_int', Dz.int_bl', Dz.tupF_lst, Dz.tupF_tup, Dz.lstF_lst, Dz.lstF_tup, Dz.is_bl', Dz.not_bl', Dz.take_eq, Dz.some_some, Dz.two_eq, List.length_cons, List.length_nil, List.map_cons, List.map_nil, List.append_nil, List.cons_append, List.nil_append, Nat.reduceAdd, Nat.reduceSub, Nat.reduceLeDiff, Nat.zero_add, Int.toNat_natCast, if_true, if_false, Bool.false_eq_true, Bool.not_true, Bool.not_false, true_and, and_true, ite_true, ite_false, isi_non_int, isi_non_bool, isi_non_str, isi_non_tuple, isi_non_list, isi_non_dict, isi_bl_int, isi_bl_bool, isi_bl_str, isi_bl_tuple, isi_bl_list, isi_bl_dict, isi_int_int, isi_int_bool, isi_int_str, isi_int_tuple, isi_int_list, isi_int_dict, isi_str_int, isi_str_bool, isi_str_str, isi_str_tuple, isi_str_list, isi_str_dict, isi_tup_int, isi_tup_bool, isi_tup_str, isi_tup_tuple, isi_tup_list, isi_tup_dict, isi_lst_int, isi_lst_bool, isi_lst_str, isi_lst_tuple, isi_lst_list, isi_lst_dict, isi_dic_int, isi_dic_bool, isi_dic_str, isi_dic_tuple, isi_dic_list, isi_dic_dict]
    refine asked sm _ (seven_ok d _ ?_)
    simp -implicitDefEqProofs only [Dz.e_rng1, Dz.e_rngQ, Dz.e_seq, Dz.e_next, Dz.e_brk, Dz.e_cont, Dz.e_drop, Dz.e_ifS, Dz.e_asg, Dz.e_par, Dz.e_ret, Dz.e_retN, Dz.e_for, Dz.e_run1, Dz.e_run2, Dz.e_run3, Dz.e_run4, Dz.e_run5, Dz.e_run6, Dz.e_run7, Dz.e_run8, Dz.e_rep0, Dz.e_rep1, Dz.e_rep2, Dz.e_rep3, Dz.e_rep4, Dz.e_rep5, Dz.e_rep6, Dz.e_rep7, Dz.e_rep8, Dz.e_rep9, Dz.e_rep10, Dz.e_rep11, Dz.e_rep12, Dz.e_rep13, Dz.e_rep14, Dz.e_rep15, Dz.e_rep16, Dz.e_rep17, Dz.e_rep18, Dz.e_rep19, Dz.e_rep20, Dz.e_rep21, Dz.e_rep22, Dz.e_rep23, Dz.e_rep24, Dz.e_rep25, Dz.e_v0, Dz.e_s0, Dz.e_v1, Dz.e_s1, Dz.e_v2, Dz.e_s2, Dz.e_v3, Dz.e_s3, Dz.e_v4, Dz.e_s4, Dz.e_v5, Dz.e_s5, Dz.e_v6, Dz.e_s6, Dz.e_v7, Dz.e_s7, Dz.e_v8, Dz.e_s8, Dz.e_v9, Dz.e_s9, Dz.e_v10, Dz.e_s10, Dz.e_v11, Dz.e_s11, Dz.e_v12, Dz.e_s12, Dz.e_v13, Dz.e_s13, Dz.e_v14, Dz.e_s14, Dz.e_v15, Dz.e_s15, Dz.e_v16, Dz.e_s16, Dz.e_v17, Dz.e_s17, Dz.e_v18, Dz.e_s18, Dz.e_v19, Dz.e_s19, Dz.e_v20, Dz.e_s20, Dz.e_v21, Dz.e_s21, Dz.e_v22, Dz.e_s22, Dz.e_v23, Dz.e_s23, Dz.e_v24, Dz.e_s24, Dz.e_v25, Dz.e_s25, Dz.e_c, Dz.e_bin, Dz.e_un, Dz.e_test, Dz.e_tru, Dz.e_and, Dz.e_or, Dz.e_not, Dz.e_yes, Dz.e_andV, Dz.e_orV, Dz.e_notV, Dz.e_orT, Dz.e_andT, Dz.e_if, Dz.e_nil, Dz.e_cons, Dz.e_tup, Dz.e_lst, Dz.e_call, Dz.e_fn, Dz.e_chain, Dz.e_noP, Dz.e_part, Dz.e_sl, Dz.e_m1, Dz.e_m0, Dz.e_gv, Dz.e_gt, Dz.e_gc, Dz.e_gn, Dz.e_lc, Dz.e_w0, Dz.e_w1, Dz.e_list, Dz.e_tupI, Dz.e_strI, Dz.tru_bl, Dz.tru_int, Dz.tru_lst, Dz.tru_tup, Dz.tru_str, Dz.len_lst, Dz.len_tup, Dz.len_str, Dz.add_int', Dz.sub_int', Dz.lt_int', Dz.le_int', Dz.gt_int', Dz.ge_int', Dz.eq_int', Dz.ne_int', Dz.eq_str', Dz.ne_str', Dz.asBl_bl, Dz.asStr_str, Dz.asInt_int, Dz.asLst_lst, Dz.asTup_tup, Dz.add_str', Dz.add_lst', Dz.add_tup', Dz.mul_int', Dz.mul_str', Dz.mod_int'', Dz.div_int', Dz.ix_lst', Dz.ix_tup', Dz.ix_str', Dz.sl_lst', Dz.sl_tup', Dz.sl_str', Dz.neg_int', Dz.at0, Dz.at1, Dz.at2, Dz.at3, Dz.at4, Dz.at5, Dz.at6, Dz.at7, Dz.int_int', Dz.int_bl', Dz.tupF_lst, Dz.tupF_tup, Dz.lstF_lst, Dz.lstF_tup, Dz.is_bl', Dz.not_bl', Dz.take_eq, Dz.some_some, Dz.two_eq, List.length_cons, List.length_nil, List.map_cons, List.map_nil, List.append_nil, List.cons_append, List.nil_append, Nat.reduceAdd, Nat.reduceSub, Nat.reduceLeDiff, Nat.zero_add, Int.toNat_natCast, if_true, if_false, Bool.false_eq_true, Bool.not_true, Bool.not_false, true_and, and_true, ite_true, ite_false, isi_non_int, isi_non_bool, isi_non_str, isi_non_tuple, isi_non_list, isi_non_dict, isi_bl_int, isi_bl_bool, isi_bl_str, isi_bl_tuple, isi_bl_list, isi_bl_dict, isi_int_int, isi_int_bool, isi_int_str, isi_int_tuple, isi_int_list, isi_int_dict, isi_str_int, isi_str_bool, isi_str_str, isi_str_tuple, isi_str_list, isi_str_dict, isi_tup_int, isi_tup_bool, isi_tup_str, isi_tup_tuple, isi_tup_list, isi_tup_dict, isi_lst_int, isi_lst_bool, isi_lst_str, isi_lst_tuple, isi_lst_list, isi_lst_dict, isi_dic_int, isi_dic_bool, isi_dic_str, isi_dic_tuple, isi_dic_list, isi_dic_dict]
    rw [if_neg (by simp)]
    refine rep _ ?_
    simp -implicitDefEqProofs only [Dz.e_rng1, Dz.e_rngQ, Dz.e_seq, Dz.e_next, Dz.e_brk, Dz.e_cont, Dz.e_drop, Dz.e_ifS, Dz.e_asg, Dz.e_par, Dz.e_ret, Dz.e_retN, Dz.e_for, Dz.e_run1, Dz.e_run2, Dz.e_run3, Dz.e_run4, Dz.e_run5, Dz.e_run6, Dz.e_run7, Dz.e_run8, Dz.e_rep0, Dz.e_rep1, Dz.e_rep2, Dz.e_rep3, Dz.e_rep4, Dz.e_rep5, Dz.e_rep6, Dz.e_rep7, Dz.e_rep8, Dz.e_rep9, Dz.e_rep10, Dz.e_rep11, Dz.e_rep12, Dz.e_rep13, Dz.e_rep14, Dz.e_rep15, Dz.e_rep16, Dz.e_rep17, Dz.e_rep18, Dz.e_rep19, Dz.e_rep20, Dz.e_rep21, Dz.e_rep22, Dz.e_rep23, Dz.e_rep24, Dz.e_rep25, Dz.e_v0, Dz.e_s0, Dz.e_v1, Dz.e_s1, Dz.e_v2, Dz.e_s2, Dz.e_v3, Dz.e_s3, Dz.e_v4, Dz.e_s4, Dz.e_v5, Dz.e_s5, Dz.e_v6, Dz.e_s6, Dz.e_v7, Dz.e_s7, Dz.e_v8, Dz.e_s8, Dz.e_v9, Dz.e_s9, Dz.e_v10, Dz.e_s10, Dz.e_v11, Dz.e_s11, Dz.e_v12, Dz.e_s12, Dz.e_v13, Dz.e_s13, Dz.e_v14, Dz.e_s14, Dz.e_v15, Dz.e_s15, Dz.e_v16, Dz.e_s16, Dz.e_v17, Dz.e_s17, Dz.e_v18, Dz.e_s18, Dz.e_v19, Dz.e_s19, Dz.e_v20, Dz.e_s20, Dz.e_v21, Dz.e_s21, Dz.e_v22, Dz.e_s22, Dz.e_v23, Dz.e_s23, Dz.e_v24, Dz.e_s24, Dz.e_v25, Dz.e_s25, Dz.e_c, Dz.e_bin, Dz.e_un, Dz.e_test, Dz.e_tru, Dz.e_and, Dz.e_or, Dz.e_not, Dz.e_yes, Dz.e_andV, Dz.e_orV, Dz.e_notV, Dz.e_orT, Dz.e_andT, Dz.e_if, Dz.e_nil, Dz.e_cons, Dz.e_tup, Dz.e_lst, Dz.e_call, Dz.e_fn, Dz.e_chain, Dz.e_noP, Dz.e_part, Dz.e_sl, Dz.e_m1, Dz.e_m0, Dz.e_gv, Dz.e_gt, Dz.e_gc, Dz.e_gn, Dz.e_lc, Dz.e_w0, Dz.e_w1, Dz.e_list, Dz.e_tupI, Dz.e_strI, Dz.tru_bl, Dz.tru_int, Dz.tru_lst, Dz.tru_tup, Dz.tru_str, Dz.len_lst, Dz.len_tup, Dz.len_str, Dz.add_int', Dz.sub_int', Dz.lt_int', Dz.le_int', Dz.gt_int', Dz.ge_int', Dz.eq_int', Dz.ne_int', Dz.eq_str', Dz.ne_str', Dz.asBl_bl, Dz.asStr_str, Dz.asInt_int, Dz.asLst_lst, Dz.asTup_tup, Dz.add_str', Dz.add_lst', Dz.add_tup', Dz.mul_int', Dz.mul_str', Dz.mod_int'', Dz.div_int', Dz.ix_lst', Dz.ix_tup', Dz.ix_str', Dz.sl_lst', Dz.sl_tup', Dz.sl_str', Dz.neg_int', Dz.at0, Dz.at1, Dz.at2, Dz.at3, Dz.at4, Dz.at5, Dz.at6, Dz.at7, Dz.int_int', Dz.int_bl', Dz.tupF_lst, Dz.tupF_tup, Dz.lstF_lst, Dz.lstF_tup, Dz.is_bl', Dz.not_bl', Dz.take_eq, Dz.some_some, Dz.two_eq, List.length_cons, List.length_nil, List.map_cons, List.map_nil, List.append_nil, List.cons_append, List.nil_append, Nat.reduceAdd, Nat.reduceSub, Nat.reduceLeDiff, Nat.zero_add, Int.toNat_natCast, if_true, if_false, Bool.false_eq_true, Bool.not_true, Bool.not_false, true_and, and_true, ite_true, ite_false, isi_non_int, isi_non_bool, isi_non_str, isi_non_tuple, isi_non_list, isi_non_dict, isi_bl_int, isi_bl_bool, isi_bl_str, isi_bl_tuple, isi_bl_list, isi_bl_dict, isi_int_int, isi_int_bool, isi_int_str, isi_int_tuple, isi_int_list, isi_int_dict, isi_str_int, isi_str_bool, isi_str_str, isi_str_tuple, isi_str_list, isi_str_dict, isi_tup_int, isi_tup_bool, isi_tup_str, isi_tup_tuple, isi_tup_list, isi_tup_dict, isi_lst_int, isi_lst_bool, isi_lst_str, isi_lst_tuple, isi_lst_list, isi_lst_dict, isi_dic_int, isi_dic_bool, isi_dic_str, isi_dic_tuple, isi_dic_list, isi_dic_dict]
    rw [if_neg (by simp)]
    exact hN' _ ⟨_, rfl⟩
end K11

namespace K11
open PySem PySem.Spec PyProof.Rows L2 Dz
/-- letters alone -/
def Ch (s : Str) (n : Nat) : Prop := s.length ≤ n ∧ ∀ c ∈ s.cps.toList, c < 1000
theorem eta (s : Str) : s = SX.S s.cps.toList := (SX.S_tl s).symm
theorem slen (l : List Nat) : (SX.S l).length = l.length := SX.S_len l
theorem app_cps (a b : Str) : (a ++ b).cps.toList = a.cps.toList ++ b.cps.toList := TL.tl_append a b
theorem app_len (a b : Str) : (a ++ b).length = a.length + b.length := strLen_append a b
theorem Ch.app {a b : Str} {n m : Nat} (h : Ch a n) (k : Ch b m) : Ch (a ++ b) (n + m) := by
  refine ⟨by rw [app_len]; have := h.1; have := k.1; omega, fun c hc => ?_⟩
  rw [app_cps, List.mem_append] at hc
  exact hc.elim (h.2 c) (k.2 c)
theorem Ch.to {s : Str} {n : Nat} (h : Ch s n) (i : Int) (h0 : 0 ≤ i) : Ch (Txt.slice s none (some i)) n ∧ (Txt.slice s none (some i)).length = min i.toNat s.length := by
  rw [eta s, SX.slice_to h0]
  refine ⟨⟨?_, fun c hc => h.2 c ?_⟩, ?_⟩
  · rw [slen, List.length_take]; have := h.1; unfold Str.length at this; simp at *; omega
  · simp [SX.S] at hc; exact List.mem_of_mem_take hc
  · rw [slen, List.length_take, slen]
theorem Ch.from {s : Str} {n : Nat} (h : Ch s n) (i : Int) (h0 : 0 ≤ i) : Ch (Txt.slice s (some i) none) n ∧ (Txt.slice s (some i) none).length = s.length - i.toNat := by
  rw [eta s, SX.slice_from h0]
  refine ⟨⟨?_, fun c hc => h.2 c ?_⟩, ?_⟩
  · rw [slen, List.length_drop]; have := h.1; unfold Str.length at this; simp at *; omega
  · simp [SX.S] at hc; exact List.mem_of_mem_drop hc
  · rw [slen, List.length_drop, slen]
/-- letters joined -/
theorem join_ch : ∀ ys : List Str, (∀ y ∈ ys, Ch y 1 ∧ y.length = 1) → Ch (Txt.join (Str.ofString "") ys) ys.length ∧ (Txt.join (Str.ofString "") ys).length = ys.length := by
  intro ys h
  have e0 : Str.ofString "" = SX.S [] := by decide +kernel
  have key : ∀ zs : List (List Nat), TL.joinL [] zs = zs.flatten := by
    intro zs
    induction zs with
    | nil => rfl
    | cons p r ih =>
      cases r with
      | nil => simp [TL.joinL]
      | cons q r => show p ++ ([] ++ TL.joinL [] (q :: r)) = _; rw [ih]; simp
  have e1 : ys = (ys.map fun y => y.cps.toList).map SX.S := by
    rw [List.map_map]
    conv => lhs; rw [← List.map_id ys]
    apply List.map_congr_left
    intro y _
    exact eta y
  have e2 : Txt.join (Str.ofString "") ys = SX.S ((ys.map fun y => y.cps.toList).flatten) := by
    conv => lhs; rw [e1, e0]
    rw [SX.join_S, key]
  have e3 : ((ys.map fun y => y.cps.toList).flatten).length = ys.length := by
    clear e1 e2
    induction ys with
    | nil => rfl
    | cons y ys ih =>
      rw [List.map_cons, List.flatten_cons, List.length_append, ih fun z hz => h z (List.mem_cons_of_mem _ hz), List.length_cons]
      have := (h y List.mem_cons_self).2
      have e : y.cps.toList.length = y.length := by simp [Str.length]
      omega
  rw [e2]
  refine ⟨⟨by rw [slen, e3]; exact Nat.le_refl _, fun c hc => ?_⟩, by rw [slen, e3]⟩
  have hc' : c ∈ (ys.map fun y => y.cps.toList).flatten := by simpa [SX.S] using hc
  obtain ⟨l, hl, hcl⟩ := List.mem_flatten.mp hc'
  obtain ⟨y, hy, rfl⟩ := List.mem_map.mp hl
  exact (h y hy).1.2 c hcl

theorem at_P {xs : List D} (P : D → Prop) {r : Int} {Q : D → Prop} (h : ∀ x ∈ xs, P x) (h0 : 0 ≤ r) (h1 : r < xs.length) (q : ∀ d, P d → Q d) : someD (atI xs r) Q := by
  have hr : r.toNat < xs.length := by omega
  rw [atI_int h0 (List.getElem?_eq_getElem hr)]
  exact q _ (h _ (List.getElem_mem hr))
theorem ch_one {c : Nat} (h : c < 1000) : Ch ⟨#[c]⟩ 1 ∧ (⟨#[c]⟩ : Str).length = 1 := by
  refine ⟨⟨by show (1 : Nat) ≤ 1; decide, fun d hd => ?_⟩, rfl⟩
  have : d = c := by simpa using hd
  rw [this]; exact h
def lowA (s : Str) : Bool := s.cps.toList.all fun c => decide (c < 1000)
theorem low_at {s : Str} (h : lowA s = true) {i : Int} (h0 : 0 ≤ i) (h1 : i < s.length) : ∃ c, atI s.cps.toList i = some c ∧ c < 1000 := by
  have e : s.cps.toList.length = s.length := by simp [Str.length]
  have hr : i.toNat < s.cps.toList.length := by omega
  exact ⟨_, atI_int h0 (List.getElem?_eq_getElem hr), of_decide_eq_true (List.all_eq_true.mp h _ (List.getElem_mem hr))⟩
abbrev OTH : Str := Str.ofString " \n!\"#$&'()*+,-./0123456789:;<=>?\x40[\\]^_`{|}~" ++ Txt.upper (Str.ofString "abcdefghijklmnopqrstuvwxyz")
theorem oth_low : lowA OTH = true ∧ 1 ≤ OTH.length ∧ OTH.length ≤ 500 := by decide +kernel
theorem ltr_low : lowA (Str.ofString "abcdefghijklmnopqrstuvwxyz") = true ∧ (Str.ofString "abcdefghijklmnopqrstuvwxyz").length = 26 := by decide +kernel
theorem text_spec (Q : D → Prop) (h : ∀ s : Str, Ch s 12 → Q (.str s)) : m__law_text [.bag] Q := by
  unfold m__law_text
  simp -implicitDefEqProofs only [Dz.e_rng1, Dz.e_rngQ, Dz.e_seq, Dz.e_next, Dz.e_brk, Dz.e_cont, Dz.e_drop, Dz.e_ifS, Dz.e_asg, Dz.e_par, Dz.e_ret, Dz.e_retN, Dz.e_for, Dz.e_run1, Dz.e_run2, Dz.e_run3, Dz.e_run4, Dz.e_run5, Dz.e_run6, Dz.e_run7, Dz.e_run8, Dz.e_rep0, Dz.e_rep1, Dz.e_rep2, Dz.e_rep3, Dz.e_rep4, Dz.e_rep5, Dz.e_rep6, Dz.e_rep7, Dz.e_rep8, Dz.e_rep9, Dz.e_rep10, Dz.e_rep11, Dz.e_rep12, Dz.e_rep13, Dz.e_rep14, Dz.e_rep15, Dz.e_rep16, Dz.e_rep17, Dz.e_rep18, Dz.e_rep19, Dz.e_rep20, Dz.e_rep21, Dz.e_rep22, Dz.e_rep23, Dz.e_rep24, Dz.e_rep25, Dz.e_v0, Dz.e_s0, Dz.e_v1, Dz.e_s1, Dz.e_v2, Dz.e_s2, Dz.e_v3, Dz.e_s3, Dz.e_v4, Dz.e_s4, Dz.e_v5, Dz.e_s5, Dz.e_v6, Dz.e_s6, Dz.e_v7, Dz.e_s7, Dz.e_v8, Dz.e_s8, Dz.e_v9, Dz.e_s9, Dz.e_v10, Dz.e_s10, Dz.e_v11, Dz.e_s11, Dz.e_v12, Dz.e_s12, Dz.e_v13, Dz.e_s13, Dz.e_v14, Dz.e_s14, Dz.e_v15, Dz.e_s15, Dz.e_v16, Dz.e_s16, Dz.e_v17, Dz.e_s17, Dz.e_v18, Dz.e_s18, Dz.e_v19, Dz.e_s19, Dz.e_v20, Dz.e_s20, Dz.e_v21, Dz.e_s21, Dz.e_v22, Dz.e_s22, Dz.e_v23, Dz.e_s23, Dz.e_v24, Dz.e_s24, Dz.e_v25, Dz.e_s25, Dz.e_c, Dz.e_bin, Dz.e_un, Dz.e_test, Dz.e_tru, Dz.e_and, Dz.e_or, Dz.e_not, Dz.e_yes, Dz.e_andV, Dz.e_orV, Dz.e_notV, Dz.e_orT, Dz.e_andT, Dz.e_if, Dz.e_nil, Dz.e_cons, Dz.e_tup, Dz.e_lst, Dz.e_call, Dz.e_fn, Dz.e_chain, Dz.e_noP, Dz.e_part, Dz.e_sl, Dz.e_m1, Dz.e_m0, Dz.e_gv, Dz.e_gt, Dz.e_gc, Dz.e_gn, Dz.e_lc, Dz.e_w0, Dz.e_w1, Dz.e_list, Dz.e_tupI, Dz.e_strI, Dz.tru_bl, Dz.tru_int, Dz.tru_lst, Dz.tru_tup, Dz.tru_str, Dz.len_lst, Dz.len_tup, Dz.len_str, Dz.add_int', Dz.sub_int', Dz.lt_int', Dz.le_int', Dz.gt_int', Dz.ge_int', Dz.eq_int', Dz.ne_int', Dz.eq_str', Dz.ne_str', Dz.asBl_bl, Dz.asStr_str, Dz.asInt_int, Dz.asLst_lst, Dz.asTup_tup, Dz.add_str', Dz.add_lst', Dz.add_tup', Dz.mul_int', Dz.mul_str', Dz.mod_int'', Dz.div_int', Dz.ix_lst', Dz.ix_tup', Dz.ix_str', Dz.sl_lst', Dz.sl_tup', Dz.sl_str', Dz.neg_int', Dz.at0, Dz.at1, Dz.at2, Dz.at3, Dz.at4, Dz.at5, Dz.at6, Dz.at7, Dz.int_int', Dz.int_bl', Dz.tupF_lst, Dz.tupF_tup, Dz.lstF_lst, Dz.lstF_tup, Dz.is_bl', Dz.not_bl', Dz.take_eq, Dz.some_some, Dz.two_eq, List.length_cons, List.length_nil, List.map_cons, List.map_nil, List.append_nil, List.cons_append, List.nil_append, Nat.reduceAdd, Nat.reduceSub, Nat.reduceLeDiff, Nat.zero_add, Int.toNat_natCast, if_true, if_false, Bool.false_eq_true, Bool.not_true, Bool.not_false, true_and, and_true, ite_true, ite_false, isi_non_int, isi_non_bool, isi_non_str, isi_non_tuple, isi_non_list, isi_non_dict, isi_bl_int, isi_bl_bool, isi_bl_str, isi_bl_tuple, isi_bl_list, isi_bl_dict, isi_int_int, isi_int_bool, isi_int_str, isi_int_tuple, isi_int_list, isi_int_dict, isi_str_int, isi_str_bool, isi_str_str, isi_str_tuple, isi_str_list, isi_str_dict, isi_tup_int, isi_tup_bool, isi_tup_str, isi_tup_tuple, isi_tup_list, isi_tup_dict, isi_lst_int, isi_lst_bool, isi_lst_str, isi_lst_tuple, isi_lst_list, isi_lst_dict, isi_dic_int, isi_dic_bool, isi_dic_str, isi_dic_tuple, isi_dic_list, isi_dic_dict, eqG_str, up_str]
  have o1 := oth_low.2.1
  have o2 := oth_low.2.2
  have ol := oth_low.1
  unfold OTH at o1 o2 ol
  have l26 := ltr_low.2
  have o3 := o2
  rw [app_len] at o3
  refine ⟨by omega, size_le (by omega), ⟨by decide, by decide⟩, fun r r0 r1 => ⟨by decide, ⟨by decide, by decide⟩, fun t t0 t1 => ?_⟩⟩
  generalize (Str.ofString " \n!\"#$&'()*+,-./0123456789:;<=>?\x40[\\]^_`{|}~" ++ Txt.upper (Str.ofString "abcdefghijklmnopqrstuvwxyz")) = oth at o1 o2 ol ⊢
  refine at_P (fun d => ∃ m : Int, d = .int m ∧ 0 ≤ m ∧ m ≤ 10) ?_ t0 t1 ?_
  · intro x hx
    simp only [List.mem_cons, List.not_mem_nil, or_false] at hx
    rcases hx with rfl | rfl | rfl | rfl | rfl
    · exact ⟨_, rfl, r0, by omega⟩
    all_goals exact ⟨_, rfl, by decide, by decide⟩
  rintro _ ⟨m, rfl, m0, m1⟩
  simp -implicitDefEqProofs only [Dz.e_rng1, Dz.e_rngQ, Dz.e_seq, Dz.e_next, Dz.e_brk, Dz.e_cont, Dz.e_drop, Dz.e_ifS, Dz.e_asg, Dz.e_par, Dz.e_ret, Dz.e_retN, Dz.e_for, Dz.e_run1, Dz.e_run2, Dz.e_run3, Dz.e_run4, Dz.e_run5, Dz.e_run6, Dz.e_run7, Dz.e_run8, Dz.e_rep0, Dz.e_rep1, Dz.e_rep2, Dz.e_rep3, Dz.e_rep4, Dz.e_rep5, Dz.e_rep6, Dz.e_rep7, Dz.e_rep8, Dz.e_rep9, Dz.e_rep10, Dz.e_rep11, Dz.e_rep12, Dz.e_rep13, Dz.e_rep14, Dz.e_rep15, Dz.e_rep16, Dz.e_rep17, Dz.e_rep18, Dz.e_rep19, Dz.e_rep20, Dz.e_rep21, Dz.e_rep22, Dz.e_rep23, Dz.e_rep24, Dz.e_rep25, Dz.e_v0, Dz.e_s0, Dz.e_v1, Dz.e_s1, Dz.e_v2, Dz.e_s2, Dz.e_v3, Dz.e_s3, Dz.e_v4, Dz.e_s4, Dz.e_v5, Dz.e_s5, Dz.e_v6, Dz.e_s6, Dz.e_v7, Dz.e_s7, Dz.e_v8, Dz.e_s8, Dz.e_v9, Dz.e_s9, Dz.e_v10, Dz.e_s10, Dz.e_v11, Dz.e_s11, Dz.e_v12, Dz.e_s12, Dz.e_v13, Dz.e_s13, Dz.e_v14, Dz.e_s14, Dz.e_v15, Dz.e_s15, Dz.e_v16, Dz.e_s16, Dz.e_v17, Dz.e_s17, Dz.e_v18, Dz.e_s18, Dz.e_v19, Dz.e_s19, Dz.e_v20, Dz.e_s20, Dz.e_v21, Dz.e_s21, Dz.e_v22, Dz.e_s22, Dz.e_v23, Dz.e_s23, Dz.e_v24, Dz.e_s24, Dz.e_v25, Dz.e_s25, Dz.e_c, Dz.e_bin, Dz.e_un, Dz.e_test, Dz.e_tru, Dz.e_and, Dz.e_or, Dz.e_not, Dz.e_yes, Dz.e_andV, Dz.e_orV, Dz.e_notV, Dz.e_orT, Dz.e_andT, Dz.e_if, Dz.e_nil, Dz.e_cons, Dz.e_tup, Dz.e_lst, Dz.e_call, Dz.e_fn, Dz.e_chain, Dz.e_noP, Dz.e_part, Dz.e_sl, Dz.e_m1, Dz.e_m0, Dz.e_gv, Dz.e_gt, Dz.e_gc, Dz.e_gn, Dz.e_lc, Dz.e_w0, Dz.e_w1, Dz.e_list, Dz.e_tupI, Dz.e_strI, Dz.tru_bl, Dz.tru_int, Dz.tru_lst, Dz.tru_tup, Dz.tru_str, Dz.len_lst, Dz.len_tup, Dz.len_str, Dz.add_int', Dz.sub_int', Dz.lt_int', Dz.le_int', Dz.gt_int', Dz.ge_int', Dz.eq_int', Dz.ne_int', Dz.eq_str', Dz.ne_str', Dz.asBl_bl, Dz.asStr_str, Dz.asInt_int, Dz.asLst_lst, Dz.asTup_tup, Dz.add_str', Dz.add_lst', Dz.add_tup', Dz.mul_int', Dz.mul_str', Dz.mod_int'', Dz.div_int', Dz.ix_lst', Dz.ix_tup', Dz.ix_str', Dz.sl_lst', Dz.sl_tup', Dz.sl_str', Dz.neg_int', Dz.at0, Dz.at1, Dz.at2, Dz.at3, Dz.at4, Dz.at5, Dz.at6, Dz.at7, Dz.int_int', Dz.int_bl', Dz.tupF_lst, Dz.tupF_tup, Dz.lstF_lst, Dz.lstF_tup, Dz.is_bl', Dz.not_bl', Dz.take_eq, Dz.some_some, Dz.two_eq, List.length_cons, List.length_nil, List.map_cons, List.map_nil, List.append_nil, List.cons_append, List.nil_append, Nat.reduceAdd, Nat.reduceSub, Nat.reduceLeDiff, Nat.zero_add, Int.toNat_natCast, if_true, if_false, Bool.false_eq_true, Bool.not_true, Bool.not_false, true_and, and_true, ite_true, ite_false, isi_non_int, isi_non_bool, isi_non_str, isi_non_tuple, isi_non_list, isi_non_dict, isi_bl_int, isi_bl_bool, isi_bl_str, isi_bl_tuple, isi_bl_list, isi_bl_dict, isi_int_int, isi_int_bool, isi_int_str, isi_int_tuple, isi_int_list, isi_int_dict, isi_str_int, isi_str_bool, isi_str_str, isi_str_tuple, isi_str_list, isi_str_dict, isi_tup_int, isi_tup_bool, isi_tup_str, isi_tup_tuple, isi_tup_list, isi_tup_dict, isi_lst_int, isi_lst_bool, isi_lst_str, isi_lst_tuple, isi_lst_list, isi_lst_dict, isi_dic_int, isi_dic_bool, isi_dic_str, isi_dic_tuple, isi_dic_list, isi_dic_dict]
  refine ⟨by omega, by omega, size_le (by rw [up_len]; omega), ?_⟩
  refine comp_allL _ D.str (fun s => Ch s 1 ∧ s.length = 1) _ _ (fun k _ Q hQ => ?_) (fun ys hl hys => ?_)
  · simp -implicitDefEqProofs only [Dz.e_rng1, Dz.e_rngQ, Dz.e_seq, Dz.e_next, Dz.e_brk, Dz.e_cont, Dz.e_drop, Dz.e_ifS, Dz.e_asg, Dz.e_par, Dz.e_ret, Dz.e_retN, Dz.e_for, Dz.e_run1, Dz.e_run2, Dz.e_run3, Dz.e_run4, Dz.e_run5, Dz.e_run6, Dz.e_run7, Dz.e_run8, Dz.e_rep0, Dz.e_rep1, Dz.e_rep2, Dz.e_rep3, Dz.e_rep4, Dz.e_rep5, Dz.e_rep6, Dz.e_rep7, Dz.e_rep8, Dz.e_rep9, Dz.e_rep10, Dz.e_rep11, Dz.e_rep12, Dz.e_rep13, Dz.e_rep14, Dz.e_rep15, Dz.e_rep16, Dz.e_rep17, Dz.e_rep18, Dz.e_rep19, Dz.e_rep20, Dz.e_rep21, Dz.e_rep22, Dz.e_rep23, Dz.e_rep24, Dz.e_rep25, Dz.e_v0, Dz.e_s0, Dz.e_v1, Dz.e_s1, Dz.e_v2, Dz.e_s2, Dz.e_v3, Dz.e_s3, Dz.e_v4, Dz.e_s4, Dz.e_v5, Dz.e_s5, Dz.e_v6, Dz.e_s6, Dz.e_v7, Dz.e_s7, Dz.e_v8, Dz.e_s8, Dz.e_v9, Dz.e_s9, Dz.e_v10, Dz.e_s10, Dz.e_v11, Dz.e_s11, Dz.e_v12, Dz.e_s12, Dz.e_v13, Dz.e_s13, Dz.e_v14, Dz.e_s14, Dz.e_v15, Dz.e_s15, Dz.e_v16, Dz.e_s16, Dz.e_v17, Dz.e_s17, Dz.e_v18, Dz.e_s18, Dz.e_v19, Dz.e_s19, Dz.e_v20, Dz.e_s20, Dz.e_v21, Dz.e_s21, Dz.e_v22, Dz.e_s22, Dz.e_v23, Dz.e_s23, Dz.e_v24, Dz.e_s24, Dz.e_v25, Dz.e_s25, Dz.e_c, Dz.e_bin, Dz.e_un, Dz.e_test, Dz.e_tru, Dz.e_and, Dz.e_or, Dz.e_not, Dz.e_yes, Dz.e_andV, Dz.e_orV, Dz.e_notV, Dz.e_orT, Dz.e_andT, Dz.e_if, Dz.e_nil, Dz.e_cons, Dz.e_tup, Dz.e_lst, Dz.e_call, Dz.e_fn, Dz.e_chain, Dz.e_noP, Dz.e_part, Dz.e_sl, Dz.e_m1, Dz.e_m0, Dz.e_gv, Dz.e_gt, Dz.e_gc, Dz.e_gn, Dz.e_lc, Dz.e_w0, Dz.e_w1, Dz.e_list, Dz.e_tupI, Dz.e_strI, Dz.tru_bl, Dz.tru_int, Dz.tru_lst, Dz.tru_tup, Dz.tru_str, Dz.len_lst, Dz.len_tup, Dz.len_str, Dz.add_int', Dz.sub_int', Dz.lt_int', Dz.le_int', Dz.gt_int', Dz.ge_int', Dz.eq_int', Dz.ne_int', Dz.eq_str', Dz.ne_str', Dz.asBl_bl, Dz.asStr_str, Dz.asInt_int, Dz.asLst_lst, Dz.asTup_tup, Dz.add_str', Dz.add_lst', Dz.add_tup', Dz.mul_int', Dz.mul_str', Dz.mod_int'', Dz.div_int', Dz.ix_lst', Dz.ix_tup', Dz.ix_str', Dz.sl_lst', Dz.sl_tup', Dz.sl_str', Dz.neg_int', Dz.at0, Dz.at1, Dz.at2, Dz.at3, Dz.at4, Dz.at5, Dz.at6, Dz.at7, Dz.int_int', Dz.int_bl', Dz.tupF_lst, Dz.tupF_tup, Dz.lstF_lst, Dz.lstF_tup, Dz.is_bl', Dz.not_bl', Dz.take_eq, Dz.some_some, Dz.two_eq, List.length_cons, List.length_nil, List.map_cons, List.map_nil, List.append_nil, List.cons_append, List.nil_append, Nat.reduceAdd, Nat.reduceSub, Nat.reduceLeDiff, Nat.zero_add, Int.toNat_natCast, if_true, if_false, Bool.false_eq_true, Bool.not_true, Bool.not_false, true_and, and_true, ite_true, ite_false, isi_non_int, isi_non_bool, isi_non_str, isi_non_tuple, isi_non_list, isi_non_dict, isi_bl_int, isi_bl_bool, isi_bl_str, isi_bl_tuple, isi_bl_list, isi_bl_dict, isi_int_int, isi_int_bool, isi_int_str, isi_int_tuple, isi_int_list, isi_int_dict, isi_str_int, isi_str_bool, isi_str_str, isi_str_tuple, isi_str_list, isi_str_dict, isi_tup_int, isi_tup_bool, isi_tup_str, isi_tup_tuple, isi_tup_list, isi_tup_dict, isi_lst_int, isi_lst_bool, isi_lst_str, isi_lst_tuple, isi_lst_list, isi_lst_dict, isi_dic_int, isi_dic_bool, isi_dic_str, isi_dic_tuple, isi_dic_list, isi_dic_dict]
    refine ⟨⟨by decide, by decide⟩, fun x x0 x1 => ⟨size_le (by omega), ?_⟩⟩
    obtain ⟨c, e, hc⟩ := low_at ltr_low.1 x0 (by omega)
    rw [e]
    exact hQ _ (ch_one hc)
  rw [List.length_range] at hl
  obtain ⟨jl, jlen⟩ := join_ch ys hys
  have hsum : (ys.map (·.length)).sum = ys.length := by
    clear jl jlen hl
    induction ys with
    | nil => rfl
    | cons y ys ih => rw [List.map_cons, List.sum_cons, ih fun z hz => hys z (List.mem_cons_of_mem _ hz), (hys y List.mem_cons_self).2, List.length_cons]; omega
  show someD (strsOf (ys.map D.str)) _
  rw [strsOf_map]
  refine ⟨by rw [hsum]; show ys.length + ys.length * (Str.ofString "").length ≤ 16777216; rw [show (Str.ofString "").length = 0 by decide +kernel]; omega, ?_⟩
  generalize Txt.join (Str.ofString "") ys = base at jl jlen ⊢
  simp -implicitDefEqProofs only [Dz.e_rng1, Dz.e_rngQ, Dz.e_seq, Dz.e_next, Dz.e_brk, Dz.e_cont, Dz.e_drop, Dz.e_ifS, Dz.e_asg, Dz.e_par, Dz.e_ret, Dz.e_retN, Dz.e_for, Dz.e_run1, Dz.e_run2, Dz.e_run3, Dz.e_run4, Dz.e_run5, Dz.e_run6, Dz.e_run7, Dz.e_run8, Dz.e_rep0, Dz.e_rep1, Dz.e_rep2, Dz.e_rep3, Dz.e_rep4, Dz.e_rep5, Dz.e_rep6, Dz.e_rep7, Dz.e_rep8, Dz.e_rep9, Dz.e_rep10, Dz.e_rep11, Dz.e_rep12, Dz.e_rep13, Dz.e_rep14, Dz.e_rep15, Dz.e_rep16, Dz.e_rep17, Dz.e_rep18, Dz.e_rep19, Dz.e_rep20, Dz.e_rep21, Dz.e_rep22, Dz.e_rep23, Dz.e_rep24, Dz.e_rep25, Dz.e_v0, Dz.e_s0, Dz.e_v1, Dz.e_s1, Dz.e_v2, Dz.e_s2, Dz.e_v3, Dz.e_s3, Dz.e_v4, Dz.e_s4, Dz.e_v5, Dz.e_s5, Dz.e_v6, Dz.e_s6, Dz.e_v7, Dz.e_s7, Dz.e_v8, Dz.e_s8, Dz.e_v9, Dz.e_s9, Dz.e_v10, Dz.e_s10, Dz.e_v11, Dz.e_s11, Dz.e_v12, Dz.e_s12, Dz.e_v13, Dz.e_s13, Dz.e_v14, Dz.e_s14, Dz.e_v15, Dz.e_s15, Dz.e_v16, Dz.e_s16, Dz.e_v17, Dz.e_s17, Dz.e_v18, Dz.e_s18, Dz.e_v19, Dz.e_s19, Dz.e_v20, Dz.e_s20, Dz.e_v21, Dz.e_s21, Dz.e_v22, Dz.e_s22, Dz.e_v23, Dz.e_s23, Dz.e_v24, Dz.e_s24, Dz.e_v25, Dz.e_s25, Dz.e_c, Dz.e_bin, Dz.e_un, Dz.e_test, Dz.e_tru, Dz.e_and, Dz.e_or, Dz.e_not, Dz.e_yes, Dz.e_andV, Dz.e_orV, Dz.e_notV, Dz.e_orT, Dz.e_andT, Dz.e_if, Dz.e_nil, Dz.e_cons, Dz.e_tup, Dz.e_lst, Dz.e_call, Dz.e_fn, Dz.e_chain, Dz.e_noP, Dz.e_part, Dz.e_sl, Dz.e_m1, Dz.e_m0, Dz.e_gv, Dz.e_gt, Dz.e_gc, Dz.e_gn, Dz.e_lc, Dz.e_w0, Dz.e_w1, Dz.e_list, Dz.e_tupI, Dz.e_strI, Dz.tru_bl, Dz.tru_int, Dz.tru_lst, Dz.tru_tup, Dz.tru_str, Dz.len_lst, Dz.len_tup, Dz.len_str, Dz.add_int', Dz.sub_int', Dz.lt_int', Dz.le_int', Dz.gt_int', Dz.ge_int', Dz.eq_int', Dz.ne_int', Dz.eq_str', Dz.ne_str', Dz.asBl_bl, Dz.asStr_str, Dz.asInt_int, Dz.asLst_lst, Dz.asTup_tup, Dz.add_str', Dz.add_lst', Dz.add_tup', Dz.mul_int', Dz.mul_str', Dz.mod_int'', Dz.div_int', Dz.ix_lst', Dz.ix_tup', Dz.ix_str', Dz.sl_lst', Dz.sl_tup', Dz.sl_str', Dz.neg_int', Dz.at0, Dz.at1, Dz.at2, Dz.at3, Dz.at4, Dz.at5, Dz.at6, Dz.at7, Dz.int_int', Dz.int_bl', Dz.tupF_lst, Dz.tupF_tup, Dz.lstF_lst, Dz.lstF_tup, Dz.is_bl', Dz.not_bl', Dz.take_eq, Dz.some_some, Dz.two_eq, List.length_cons, List.length_nil, List.map_cons, List.map_nil, List.append_nil, List.cons_append, List.nil_append, Nat.reduceAdd, Nat.reduceSub, Nat.reduceLeDiff, Nat.zero_add, Int.toNat_natCast, if_true, if_false, Bool.false_eq_true, Bool.not_true, Bool.not_false, true_and, and_true, ite_true, ite_false, isi_non_int, isi_non_bool, isi_non_str, isi_non_tuple, isi_non_list, isi_non_dict, isi_bl_int, isi_bl_bool, isi_bl_str, isi_bl_tuple, isi_bl_list, isi_bl_dict, isi_int_int, isi_int_bool, isi_int_str, isi_int_tuple, isi_int_list, isi_int_dict, isi_str_int, isi_str_bool, isi_str_str, isi_str_tuple, isi_str_list, isi_str_dict, isi_tup_int, isi_tup_bool, isi_tup_str, isi_tup_tuple, isi_tup_list, isi_tup_dict, isi_lst_int, isi_lst_bool, isi_lst_str, isi_lst_tuple, isi_lst_list, isi_lst_dict, isi_dic_int, isi_dic_bool, isi_dic_str, isi_dic_tuple, isi_dic_list, isi_dic_dict, eqG_str]
  have fin : Q (.str base) := h _ ⟨by have := jl.1; omega, jl.2⟩
  split
  · exact fin
  rename_i hne
  have b1 : 1 ≤ base.length := by
    by_cases z : base.length = 0
    · refine absurd ?_ hne
      rw [beq_iff_eq, eta base, show Str.ofString "" = SX.S [] by decide +kernel]
      congr 1
      apply List.eq_nil_of_length_eq_zero
      simpa [Str.length] using z
    · omega
  refine ⟨⟨by decide, by decide⟩, fun p p0 p1 => ?_⟩
  split
  · exact fin
  refine ⟨⟨by omega, log_small (by omega) (by omega)⟩, fun q q0 q1 => ?_⟩
  refine ⟨size_le (by omega), size_le (by omega), ⟨by omega, log_small (by omega) (by omega)⟩, fun i i0 i1 => ⟨size_le (by omega), ?_⟩⟩
  obtain ⟨c, e, hc⟩ := low_at ol i0 i1
  rw [e]
  simp -implicitDefEqProofs only [Dz.e_rng1, Dz.e_rngQ, Dz.e_seq, Dz.e_next, Dz.e_brk, Dz.e_cont, Dz.e_drop, Dz.e_ifS, Dz.e_asg, Dz.e_par, Dz.e_ret, Dz.e_retN, Dz.e_for, Dz.e_run1, Dz.e_run2, Dz.e_run3, Dz.e_run4, Dz.e_run5, Dz.e_run6, Dz.e_run7, Dz.e_run8, Dz.e_rep0, Dz.e_rep1, Dz.e_rep2, Dz.e_rep3, Dz.e_rep4, Dz.e_rep5, Dz.e_rep6, Dz.e_rep7, Dz.e_rep8, Dz.e_rep9, Dz.e_rep10, Dz.e_rep11, Dz.e_rep12, Dz.e_rep13, Dz.e_rep14, Dz.e_rep15, Dz.e_rep16, Dz.e_rep17, Dz.e_rep18, Dz.e_rep19, Dz.e_rep20, Dz.e_rep21, Dz.e_rep22, Dz.e_rep23, Dz.e_rep24, Dz.e_rep25, Dz.e_v0, Dz.e_s0, Dz.e_v1, Dz.e_s1, Dz.e_v2, Dz.e_s2, Dz.e_v3, Dz.e_s3, Dz.e_v4, Dz.e_s4, Dz.e_v5, Dz.e_s5, Dz.e_v6, Dz.e_s6, Dz.e_v7, Dz.e_s7, Dz.e_v8, Dz.e_s8, Dz.e_v9, Dz.e_s9, Dz.e_v10, Dz.e_s10, Dz.e_v11, Dz.e_s11, Dz.e_v12, Dz.e_s12, Dz.e_v13, Dz.e_s13, Dz.e_v14, Dz.e_s14, Dz.e_v15, Dz.e_s15, Dz.e_v16, Dz.e_s16, Dz.e_v17, Dz.e_s17, Dz.e_v18, Dz.e_s18, Dz.e_v19, Dz.e_s19, Dz.e_v20, Dz.e_s20, Dz.e_v21, Dz.e_s21, Dz.e_v22, Dz.e_s22, Dz.e_v23, Dz.e_s23, Dz.e_v24, Dz.e_s24, Dz.e_v25, Dz.e_s25, Dz.e_c, Dz.e_bin, Dz.e_un, Dz.e_test, Dz.e_tru, Dz.e_and, Dz.e_or, Dz.e_not, Dz.e_yes, Dz.e_andV, Dz.e_orV, Dz.e_notV, Dz.e_orT, Dz.e_andT, Dz.e_if, Dz.e_nil, Dz.e_cons, Dz.e_tup, Dz.e_lst, Dz.e_call, Dz.e_fn, Dz.e_chain, Dz.e_noP, Dz.e_part, Dz.e_sl, Dz.e_m1, Dz.e_m0, Dz.e_gv, Dz.e_gt, Dz.e_gc, Dz.e_gn, Dz.e_lc, Dz.e_w0, Dz.e_w1, Dz.e_list, Dz.e_tupI, Dz.e_strI, Dz.tru_bl, Dz.tru_int, Dz.tru_lst, Dz.tru_tup, Dz.tru_str, Dz.len_lst, Dz.len_tup, Dz.len_str, Dz.add_int', Dz.sub_int', Dz.lt_int', Dz.le_int', Dz.gt_int', Dz.ge_int', Dz.eq_int', Dz.ne_int', Dz.eq_str', Dz.ne_str', Dz.asBl_bl, Dz.asStr_str, Dz.asInt_int, Dz.asLst_lst, Dz.asTup_tup, Dz.add_str', Dz.add_lst', Dz.add_tup', Dz.mul_int', Dz.mul_str', Dz.mod_int'', Dz.div_int', Dz.ix_lst', Dz.ix_tup', Dz.ix_str', Dz.sl_lst', Dz.sl_tup', Dz.sl_str', Dz.neg_int', Dz.at0, Dz.at1, Dz.at2, Dz.at3, Dz.at4, Dz.at5, Dz.at6, Dz.at7, Dz.int_int', Dz.int_bl', Dz.tupF_lst, Dz.tupF_tup, Dz.lstF_lst, Dz.lstF_tup, Dz.is_bl', Dz.not_bl', Dz.take_eq, Dz.some_some, Dz.two_eq, List.length_cons, List.length_nil, List.map_cons, List.map_nil, List.append_nil, List.cons_append, List.nil_append, Nat.reduceAdd, Nat.reduceSub, Nat.reduceLeDiff, Nat.zero_add, Int.toNat_natCast, if_true, if_false, Bool.false_eq_true, Bool.not_true, Bool.not_false, true_and, and_true, ite_true, ite_false, isi_non_int, isi_non_bool, isi_non_str, isi_non_tuple, isi_non_list, isi_non_dict, isi_bl_int, isi_bl_bool, isi_bl_str, isi_bl_tuple, isi_bl_list, isi_bl_dict, isi_int_int, isi_int_bool, isi_int_str, isi_int_tuple, isi_int_list, isi_int_dict, isi_str_int, isi_str_bool, isi_str_str, isi_str_tuple, isi_str_list, isi_str_dict, isi_tup_int, isi_tup_bool, isi_tup_str, isi_tup_tuple, isi_tup_list, isi_tup_dict, isi_lst_int, isi_lst_bool, isi_lst_str, isi_lst_tuple, isi_lst_list, isi_lst_dict, isi_dic_int, isi_dic_bool, isi_dic_str, isi_dic_tuple, isi_dic_list, isi_dic_dict]
  have t1 := jl.to q q0
  have t2 := jl.from (q + 1) (by omega)
  obtain ⟨c1, c2⟩ := ch_one hc
  have b2 : base.length ≤ 10 := by omega
  refine ⟨size_le (by rw [t1.2, c2]; omega), size_le (by omega), size_le (by rw [app_len, t1.2, t2.2, c2]; omega), h _ ⟨by rw [app_len, app_len, t1.2, t2.2, c2]; omega, fun x hx => ?_⟩⟩
  rw [app_cps, app_cps, List.mem_append, List.mem_append] at hx
  rcases hx with (hx | hx) | hx
  · exact t1.1.2 x hx
  · exact c1.2 x hx
  · exact t2.1.2 x hx
theorem number_spec (Q : D → Prop) (h : ∀ i : Int, -(10 ^ 31) ≤ i → i ≤ 10 ^ 31 → Q (.int i)) : m__law_number [.bag] Q := by
  unfold m__law_number
  simp -implicitDefEqProofs only [Dz.e_rng1, Dz.e_rngQ, Dz.e_seq, Dz.e_next, Dz.e_brk, Dz.e_cont, Dz.e_drop, Dz.e_ifS, Dz.e_asg, Dz.e_par, Dz.e_ret, Dz.e_retN, Dz.e_for, Dz.e_run1, Dz.e_run2, Dz.e_run3, Dz.e_run4, Dz.e_run5, Dz.e_run6, Dz.e_run7, Dz.e_run8, Dz.e_rep0, Dz.e_rep1, Dz.e_rep2, Dz.e_rep3, Dz.e_rep4, Dz.e_rep5, Dz.e_rep6, Dz.e_rep7, Dz.e_rep8, Dz.e_rep9, Dz.e_rep10, Dz.e_rep11, Dz.e_rep12, Dz.e_rep13, Dz.e_rep14, Dz.e_rep15, Dz.e_rep16, Dz.e_rep17, Dz.e_rep18, Dz.e_rep19, Dz.e_rep20, Dz.e_rep21, Dz.e_rep22, Dz.e_rep23, Dz.e_rep24, Dz.e_rep25, Dz.e_v0, Dz.e_s0, Dz.e_v1, Dz.e_s1, Dz.e_v2, Dz.e_s2, Dz.e_v3, Dz.e_s3, Dz.e_v4, Dz.e_s4, Dz.e_v5, Dz.e_s5, Dz.e_v6, Dz.e_s6, Dz.e_v7, Dz.e_s7, Dz.e_v8, Dz.e_s8, Dz.e_v9, Dz.e_s9, Dz.e_v10, Dz.e_s10, Dz.e_v11, Dz.e_s11, Dz.e_v12, Dz.e_s12, Dz.e_v13, Dz.e_s13, Dz.e_v14, Dz.e_s14, Dz.e_v15, Dz.e_s15, Dz.e_v16, Dz.e_s16, Dz.e_v17, Dz.e_s17, Dz.e_v18, Dz.e_s18, Dz.e_v19, Dz.e_s19, Dz.e_v20, Dz.e_s20, Dz.e_v21, Dz.e_s21, Dz.e_v22, Dz.e_s22, Dz.e_v23, Dz.e_s23, Dz.e_v24, Dz.e_s24, Dz.e_v25, Dz.e_s25, Dz.e_c, Dz.e_bin, Dz.e_un, Dz.e_test, Dz.e_tru, Dz.e_and, Dz.e_or, Dz.e_not, Dz.e_yes, Dz.e_andV, Dz.e_orV, Dz.e_notV, Dz.e_orT, Dz.e_andT, Dz.e_if, Dz.e_nil, Dz.e_cons, Dz.e_tup, Dz.e_lst, Dz.e_call, Dz.e_fn, Dz.e_chain, Dz.e_noP, Dz.e_part, Dz.e_sl, Dz.e_m1, Dz.e_m0, Dz.e_gv, Dz.e_gt, Dz.e_gc, Dz.e_gn, Dz.e_lc, Dz.e_w0, Dz.e_w1, Dz.e_list, Dz.e_tupI, Dz.e_strI, Dz.tru_bl, Dz.tru_int, Dz.tru_lst, Dz.tru_tup, Dz.tru_str, Dz.len_lst, Dz.len_tup, Dz.len_str, Dz.add_int', Dz.sub_int', Dz.lt_int', Dz.le_int', Dz.gt_int', Dz.ge_int', Dz.eq_int', Dz.ne_int', Dz.eq_str', Dz.ne_str', Dz.asBl_bl, Dz.asStr_str, Dz.asInt_int, Dz.asLst_lst, Dz.asTup_tup, Dz.add_str', Dz.add_lst', Dz.add_tup', Dz.mul_int', Dz.mul_str', Dz.mod_int'', Dz.div_int', Dz.ix_lst', Dz.ix_tup', Dz.ix_str', Dz.sl_lst', Dz.sl_tup', Dz.sl_str', Dz.neg_int', Dz.at0, Dz.at1, Dz.at2, Dz.at3, Dz.at4, Dz.at5, Dz.at6, Dz.at7, Dz.int_int', Dz.int_bl', Dz.tupF_lst, Dz.tupF_tup, Dz.lstF_lst, Dz.lstF_tup, Dz.is_bl', Dz.not_bl', Dz.take_eq, Dz.some_some, Dz.two_eq, List.length_cons, List.length_nil, List.map_cons, List.map_nil, List.append_nil, List.cons_append, List.nil_append, Nat.reduceAdd, Nat.reduceSub, Nat.reduceLeDiff, Nat.zero_add, Int.toNat_natCast, if_true, if_false, Bool.false_eq_true, Bool.not_true, Bool.not_false, true_and, and_true, ite_true, ite_false, isi_non_int, isi_non_bool, isi_non_str, isi_non_tuple, isi_non_list, isi_non_dict, isi_bl_int, isi_bl_bool, isi_bl_str, isi_bl_tuple, isi_bl_list, isi_bl_dict, isi_int_int, isi_int_bool, isi_int_str, isi_int_tuple, isi_int_list, isi_int_dict, isi_str_int, isi_str_bool, isi_str_str, isi_str_tuple, isi_str_list, isi_str_dict, isi_tup_int, isi_tup_bool, isi_tup_str, isi_tup_tuple, isi_tup_list, isi_tup_dict, isi_lst_int, isi_lst_bool, isi_lst_str, isi_lst_tuple, isi_lst_list, isi_lst_dict, isi_dic_int, isi_dic_bool, isi_dic_str, isi_dic_tuple, isi_dic_list, isi_dic_dict, pow_int]
  have p9 : (0 : Int) ≤ 9 ∧ (9 : Int) ≤ 1000000 ∧ Int.natAbs 10 < 2 ^ 64 := ⟨by decide, by decide, by decide⟩
  have p30 : (0 : Int) ≤ 30 ∧ (30 : Int) ≤ 1000000 ∧ Int.natAbs 10 < 2 ^ 64 := ⟨by decide, by decide, by decide⟩
  have e9 : (10 : Int) ^ Int.toNat 9 = 1000000000 := by decide
  have e30 : (10 : Int) ^ Int.toNat 30 = 1000000000000000000000000000000 := by decide
  rw [e9, e30]
  refine ⟨p9, p9, ⟨by decide, by decide⟩, fun r r0 r1 => ⟨p30, ⟨by decide, by decide⟩, fun s s0 s1 => ⟨p30, ⟨by decide, by decide⟩, fun t t0 t1 => ⟨by decide, ⟨by decide, by decide⟩, fun u u0 u1 => ?_⟩⟩⟩⟩
  refine at_P (fun d => ∃ m : Int, d = .int m ∧ -1000000000000000000000000000000 ≤ m ∧ m ≤ 1000000000000000000000000000000) ?_ u0 u1 ?_
  · intro x hx
    simp only [List.mem_cons, List.not_mem_nil, or_false] at hx
    rcases hx with rfl | rfl | rfl | rfl | rfl | rfl | rfl <;> exact ⟨_, rfl, by omega, by omega⟩
  rintro _ ⟨m, rfl, m0, m1⟩
  refine ⟨⟨by decide, by decide⟩, fun p p0 p1 => ?_⟩
  simp -implicitDefEqProofs only [Dz.e_rng1, Dz.e_rngQ, Dz.e_seq, Dz.e_next, Dz.e_brk, Dz.e_cont, Dz.e_drop, Dz.e_ifS, Dz.e_asg, Dz.e_par, Dz.e_ret, Dz.e_retN, Dz.e_for, Dz.e_run1, Dz.e_run2, Dz.e_run3, Dz.e_run4, Dz.e_run5, Dz.e_run6, Dz.e_run7, Dz.e_run8, Dz.e_rep0, Dz.e_rep1, Dz.e_rep2, Dz.e_rep3, Dz.e_rep4, Dz.e_rep5, Dz.e_rep6, Dz.e_rep7, Dz.e_rep8, Dz.e_rep9, Dz.e_rep10, Dz.e_rep11, Dz.e_rep12, Dz.e_rep13, Dz.e_rep14, Dz.e_rep15, Dz.e_rep16, Dz.e_rep17, Dz.e_rep18, Dz.e_rep19, Dz.e_rep20, Dz.e_rep21, Dz.e_rep22, Dz.e_rep23, Dz.e_rep24, Dz.e_rep25, Dz.e_v0, Dz.e_s0, Dz.e_v1, Dz.e_s1, Dz.e_v2, Dz.e_s2, Dz.e_v3, Dz.e_s3, Dz.e_v4, Dz.e_s4, Dz.e_v5, Dz.e_s5, Dz.e_v6, Dz.e_s6, Dz.e_v7, Dz.e_s7, Dz.e_v8, Dz.e_s8, Dz.e_v9, Dz.e_s9, Dz.e_v10, Dz.e_s10, Dz.e_v11, Dz.e_s11, Dz.e_v12, Dz.e_s12, Dz.e_v13, Dz.e_s13, Dz.e_v14, Dz.e_s14, Dz.e_v15, Dz.e_s15, Dz.e_v16, Dz.e_s16, Dz.e_v17, Dz.e_s17, Dz.e_v18, Dz.e_s18, Dz.e_v19, Dz.e_s19, Dz.e_v20, Dz.e_s20, Dz.e_v21, Dz.e_s21, Dz.e_v22, Dz.e_s22, Dz.e_v23, Dz.e_s23, Dz.e_v24, Dz.e_s24, Dz.e_v25, Dz.e_s25, Dz.e_c, Dz.e_bin, Dz.e_un, Dz.e_test, Dz.e_tru, Dz.e_and, Dz.e_or, Dz.e_not, Dz.e_yes, Dz.e_andV, Dz.e_orV, Dz.e_notV, Dz.e_orT, Dz.e_andT, Dz.e_if, Dz.e_nil, Dz.e_cons, Dz.e_tup, Dz.e_lst, Dz.e_call, Dz.e_fn, Dz.e_chain, Dz.e_noP, Dz.e_part, Dz.e_sl, Dz.e_m1, Dz.e_m0, Dz.e_gv, Dz.e_gt, Dz.e_gc, Dz.e_gn, Dz.e_lc, Dz.e_w0, Dz.e_w1, Dz.e_list, Dz.e_tupI, Dz.e_strI, Dz.tru_bl, Dz.tru_int, Dz.tru_lst, Dz.tru_tup, Dz.tru_str, Dz.len_lst, Dz.len_tup, Dz.len_str, Dz.add_int', Dz.sub_int', Dz.lt_int', Dz.le_int', Dz.gt_int', Dz.ge_int', Dz.eq_int', Dz.ne_int', Dz.eq_str', Dz.ne_str', Dz.asBl_bl, Dz.asStr_str, Dz.asInt_int, Dz.asLst_lst, Dz.asTup_tup, Dz.add_str', Dz.add_lst', Dz.add_tup', Dz.mul_int', Dz.mul_str', Dz.mod_int'', Dz.div_int', Dz.ix_lst', Dz.ix_tup', Dz.ix_str', Dz.sl_lst', Dz.sl_tup', Dz.sl_str', Dz.neg_int', Dz.at0, Dz.at1, Dz.at2, Dz.at3, Dz.at4, Dz.at5, Dz.at6, Dz.at7, Dz.int_int', Dz.int_bl', Dz.tupF_lst, Dz.tupF_tup, Dz.lstF_lst, Dz.lstF_tup, Dz.is_bl', Dz.not_bl', Dz.take_eq, Dz.some_some, Dz.two_eq, List.length_cons, List.length_nil, List.map_cons, List.map_nil, List.append_nil, List.cons_append, List.nil_append, Nat.reduceAdd, Nat.reduceSub, Nat.reduceLeDiff, Nat.zero_add, Int.toNat_natCast, if_true, if_false, Bool.false_eq_true, Bool.not_true, Bool.not_false, true_and, and_true, ite_true, ite_false, isi_non_int, isi_non_bool, isi_non_str, isi_non_tuple, isi_non_list, isi_non_dict, isi_bl_int, isi_bl_bool, isi_bl_str, isi_bl_tuple, isi_bl_list, isi_bl_dict, isi_int_int, isi_int_bool, isi_int_str, isi_int_tuple, isi_int_list, isi_int_dict, isi_str_int, isi_str_bool, isi_str_str, isi_str_tuple, isi_str_list, isi_str_dict, isi_tup_int, isi_tup_bool, isi_tup_str, isi_tup_tuple, isi_tup_list, isi_tup_dict, isi_lst_int, isi_lst_bool, isi_lst_str, isi_lst_tuple, isi_lst_list, isi_lst_dict, isi_dic_int, isi_dic_bool, isi_dic_str, isi_dic_tuple, isi_dic_list, isi_dic_dict]
  have e31 : (10 : Int) ^ 31 = 10000000000000000000000000000000 := by decide
  exact h _ (by rw [e31]; omega) (by rw [e31]; omega)
def okB (d : D) : Bool := pq d && PyData.leavesShort 60 d.py && d.py.showable && decide (d.py.depth ≤ 5) && decide (d.py.weight ≤ 5000) && (iw (-(10 ^ 60)) (10 ^ 60) d == isI d)
theorem okB_th {d : D} (h : okB d = true) : Th 5 5000 d ∧ iw (-(10 ^ 60)) (10 ^ 60) d = isI d := by
  unfold okB at h
  simp only [Bool.and_eq_true, decide_eq_true_eq, beq_iff_eq] at h
  obtain ⟨⟨⟨⟨⟨a, b⟩, c⟩, d⟩, e⟩, f⟩ := h
  exact ⟨⟨a, b, c, d, e⟩, f⟩
theorem disp1 (x : Str) (i : Int) (ρ : Rho) (Q : D → Prop) : mDisp [(mC (.str x), mC (.int i))] ρ Q = ((1 : Nat) ≤ 15 ∧ Q (.dic [(.inr x, .int i)])) := propext Iff.rfl
theorem odd_spec (Q : D → Prop) (h : ∀ d, okB d = true → Q d) : m__law_odd [.bag] Q := by
  unfold m__law_odd
  simp -implicitDefEqProofs only [Dz.e_rng1, Dz.e_rngQ, Dz.e_seq, Dz.e_next, Dz.e_brk, Dz.e_cont, Dz.e_drop, Dz.e_ifS, Dz.e_asg, Dz.e_par, Dz.e_ret, Dz.e_retN, Dz.e_for, Dz.e_run1, Dz.e_run2, Dz.e_run3, Dz.e_run4, Dz.e_run5, Dz.e_run6, Dz.e_run7, Dz.e_run8, Dz.e_rep0, Dz.e_rep1, Dz.e_rep2, Dz.e_rep3, Dz.e_rep4, Dz.e_rep5, Dz.e_rep6, Dz.e_rep7, Dz.e_rep8, Dz.e_rep9, Dz.e_rep10, Dz.e_rep11, Dz.e_rep12, Dz.e_rep13, Dz.e_rep14, Dz.e_rep15, Dz.e_rep16, Dz.e_rep17, Dz.e_rep18, Dz.e_rep19, Dz.e_rep20, Dz.e_rep21, Dz.e_rep22, Dz.e_rep23, Dz.e_rep24, Dz.e_rep25, Dz.e_v0, Dz.e_s0, Dz.e_v1, Dz.e_s1, Dz.e_v2, Dz.e_s2, Dz.e_v3, Dz.e_s3, Dz.e_v4, Dz.e_s4, Dz.e_v5, Dz.e_s5, Dz.e_v6, Dz.e_s6, Dz.e_v7, Dz.e_s7, Dz.e_v8, Dz.e_s8, Dz.e_v9, Dz.e_s9, Dz.e_v10, Dz.e_s10, Dz.e_v11, Dz.e_s11, Dz.e_v12, Dz.e_s12, Dz.e_v13, Dz.e_s13, Dz.e_v14, Dz.e_s14, Dz.e_v15, Dz.e_s15, Dz.e_v16, Dz.e_s16, Dz.e_v17, Dz.e_s17, Dz.e_v18, Dz.e_s18, Dz.e_v19, Dz.e_s19, Dz.e_v20, Dz.e_s20, Dz.e_v21, Dz.e_s21, Dz.e_v22, Dz.e_s22, Dz.e_v23, Dz.e_s23, Dz.e_v24, Dz.e_s24, Dz.e_v25, Dz.e_s25, Dz.e_c, Dz.e_bin, Dz.e_un, Dz.e_test, Dz.e_tru, Dz.e_and, Dz.e_or, Dz.e_not, Dz.e_yes, Dz.e_andV, Dz.e_orV, Dz.e_notV, Dz.e_orT, Dz.e_andT, Dz.e_if, Dz.e_nil, Dz.e_cons, Dz.e_tup, Dz.e_lst, Dz.e_call, Dz.e_fn, Dz.e_chain, Dz.e_noP, Dz.e_part, Dz.e_sl, Dz.e_m1, Dz.e_m0, Dz.e_gv, Dz.e_gt, Dz.e_gc, Dz.e_gn, Dz.e_lc, Dz.e_w0, Dz.e_w1, Dz.e_list, Dz.e_tupI, Dz.e_strI, Dz.tru_bl, Dz.tru_int, Dz.tru_lst, Dz.tru_tup, Dz.tru_str, Dz.len_lst, Dz.len_tup, Dz.len_str, Dz.add_int', Dz.sub_int', Dz.lt_int', Dz.le_int', Dz.gt_int', Dz.ge_int', Dz.eq_int', Dz.ne_int', Dz.eq_str', Dz.ne_str', Dz.asBl_bl, Dz.asStr_str, Dz.asInt_int, Dz.asLst_lst, Dz.asTup_tup, Dz.add_str', Dz.add_lst', Dz.add_tup', Dz.mul_int', Dz.mul_str', Dz.mod_int'', Dz.div_int', Dz.ix_lst', Dz.ix_tup', Dz.ix_str', Dz.sl_lst', Dz.sl_tup', Dz.sl_str', Dz.neg_int', Dz.at0, Dz.at1, Dz.at2, Dz.at3, Dz.at4, Dz.at5, Dz.at6, Dz.at7, Dz.int_int', Dz.int_bl', Dz.tupF_lst, Dz.tupF_tup, Dz.lstF_lst, Dz.lstF_tup, Dz.is_bl', Dz.not_bl', Dz.take_eq, Dz.some_some, Dz.two_eq, List.length_cons, List.length_nil, List.map_cons, List.map_nil, List.append_nil, List.cons_append, List.nil_append, Nat.reduceAdd, Nat.reduceSub, Nat.reduceLeDiff, Nat.zero_add, Int.toNat_natCast, if_true, if_false, Bool.false_eq_true, Bool.not_true, Bool.not_false, true_and, and_true, ite_true, ite_false, isi_non_int, isi_non_bool, isi_non_str, isi_non_tuple, isi_non_list, isi_non_dict, isi_bl_int, isi_bl_bool, isi_bl_str, isi_bl_tuple, isi_bl_list, isi_bl_dict, isi_int_int, isi_int_bool, isi_int_str, isi_int_tuple, isi_int_list, isi_int_dict, isi_str_int, isi_str_bool, isi_str_str, isi_str_tuple, isi_str_list, isi_str_dict, isi_tup_int, isi_tup_bool, isi_tup_str, isi_tup_tuple, isi_tup_list, isi_tup_dict, isi_lst_int, isi_lst_bool, isi_lst_str, isi_lst_tuple, isi_lst_list, isi_lst_dict, isi_dic_int, isi_dic_bool, isi_dic_str, isi_dic_tuple, isi_dic_list, isi_dic_dict, mulG_tup, mulG_str, pow_int, disp1]
  have a1 : (Str.ofString "a").length ≤ 1000 := by decide +kernel
  repeat' first | (refine And.intro ?_ ?_)
  all_goals first | decide | (rw [sizeLine_eq]; decide) | exact a1 | skip
  intro r r0 r1
  refine at_P (fun d => okB d = true) ?_ r0 r1 h
  rw [← List.all_eq_true]
  decide +kernel
end K11

namespace K11
open PySem PySem.Spec PyProof.Rows L2 Dz
theorem plAll_of : ∀ {xs : List D}, (∀ x ∈ xs, x.pl = true) → D.plAll xs = true
  | [], _ => rfl
  | x :: xs, h => by
    simp only [D.plAll, Bool.and_eq_true]
    exact ⟨h x List.mem_cons_self, plAll_of fun y hy => h y (List.mem_cons_of_mem _ hy)⟩
theorem pdAll_of : ∀ {xs : List D}, (∀ x ∈ xs, x.pd = true) → D.pdAll xs = true
  | [], _ => rfl
  | x :: xs, h => by
    simp only [D.pdAll, Bool.and_eq_true]
    exact ⟨h x List.mem_cons_self, pdAll_of fun y hy => h y (List.mem_cons_of_mem _ hy)⟩
theorem th_all {n w : Nat} : ∀ {xs : List D}, (∀ x ∈ xs, Th n w x) → PyData.leavesShortAll 60 (D.pyAll xs) = true ∧ PyData.showableAll (D.pyAll xs) = true ∧ PyData.depthAll (D.pyAll xs) ≤ n ∧ PyData.weightAll (D.pyAll xs) ≤ xs.length * (w + 1)
  | [], _ => by simp [D.pyAll, PyData.leavesShortAll, PyData.showableAll, PyData.depthAll, PyData.weightAll]
  | x :: xs, h => by
    obtain ⟨a, b, c, d⟩ := th_all fun y hy => h y (List.mem_cons_of_mem _ hy)
    have t := h x List.mem_cons_self
    simp only [D.pyAll, PyData.leavesShortAll, PyData.showableAll, PyData.depthAll, PyData.weightAll, a, b, t.hl, t.hs, Bool.and_self, List.length_cons, true_and]
    refine ⟨?_, ?_⟩
    · have := t.hd; omega
    · have := t.hw; rw [Nat.succ_mul]; omega
theorem th_tup {n w W : Nat} {xs : List D} (hp : D.plAll xs = true ∨ D.pdAll xs = true) (h : ∀ x ∈ xs, Th n w x) (hW : xs.length * (w + 1) ≤ W) : Th (n + 1) W (.tup xs) := by
  obtain ⟨a, b, c, d⟩ := th_all h
  refine ⟨?_, ?_, ?_, ?_, ?_⟩
  · unfold pq; simp only [D.pl, D.pd]; rcases hp with hp | hp <;> simp [hp]
  · simpa only [D.py, PyData.leavesShort] using a
  · simpa only [D.py, PyData.showable] using b
  · simp only [D.py, PyData.depth]; omega
  · simp only [D.py, PyData.weight]; omega
theorem th_lst {n w W : Nat} {xs : List D} (hp : D.plAll xs = true) (h : ∀ x ∈ xs, Th n w x) (hW : xs.length * (w + 1) ≤ W) : Th (n + 1) W (.lst xs) := by
  obtain ⟨a, b, c, d⟩ := th_all h
  refine ⟨?_, ?_, ?_, ?_, ?_⟩
  · unfold pq; simp only [D.pl, hp, Bool.true_or]
  · simpa only [D.py, PyData.leavesShort] using a
  · simpa only [D.py, PyData.showable] using b
  · simp only [D.py, PyData.depth]; omega
  · simp only [D.py, PyData.weight]; omega
theorem Th.mono {n w n' w' : Nat} {d : D} (t : Th n w d) (hn : n ≤ n') (hw : w ≤ w') : Th n' w' d := ⟨t.hp, t.hl, t.hs, Nat.le_trans t.hd hn, Nat.le_trans t.hw hw⟩
theorem th_str {s : Str} {n : Nat} (h : Ch s n) : Th 0 n (.str s) := by
  refine ⟨rfl, ?_, ?_, ?_, ?_⟩
  · simp only [D.py, PyData.leavesShort, List.all_eq_true, decide_eq_true_eq]
    exact fun c hc => Nat.lt_trans (h.2 c hc) (by decide)
  · simp only [D.py, PyData.showable]
  · simp only [D.py, PyData.depth]; omega
  · simp only [D.py, PyData.weight]; exact h.1
theorem th_int {i : Int} (h0 : -(10 ^ 31) ≤ i) (h1 : i ≤ 10 ^ 31) : Th 0 200 (.int i) := by
  have e31 : (10 : Int) ^ 31 = 10000000000000000000000000000000 := by decide
  rw [e31] at h0 h1
  have n32 : i.natAbs < 10 ^ 32 := by
    have : (10 : Nat) ^ 32 = 100000000000000000000000000000000 := by decide
    omega
  have l : i.natAbs.log2 < 110 := by
    by_cases z : i.natAbs = 0
    · rw [z]; decide
    · refine (Nat.log2_lt z).mpr (Nat.lt_of_lt_of_le n32 (by decide))
  refine ⟨rfl, ?_, ?_, ?_, ?_⟩
  · have e : PyData.leavesShort 60 (D.py (.int i)) = decide ((PyData.int i).shown.length ≤ 60) := by simp only [D.py]; exact PyData.leavesShort.eq_3 60 i
    rw [e]
    refine decide_eq_true ?_
    have k := int_text_length_le10 (a := i) (k := 32) (by decide) n32
    have e2 : (PyData.int i).shown = Str.ofString (toString i) := by simp only [PyData.shown]
    rw [e2, PySem.ofString_length]
    omega
  · simp only [D.py, PyData.showable, decide_eq_true_eq]; omega
  · simp only [D.py, PyData.depth]; omega
  · simp only [D.py, PyData.weight]; split <;> omega
/-- a part of a thing -/
structure Pt (d : D) : Prop where
  t : Th 5 5000 d
  a : d.pl = true
  b : d.pd = true
theorem pt_str {s : Str} (h : Ch s 12) : Pt (.str s) := ⟨(th_str h).mono (by decide) (by decide), rfl, rfl⟩
theorem pt_name {ys : List Str} (hl : ys.length ≤ 9) (h : ∀ y ∈ ys, Ch y 12) : Pt (.tup (ys.map D.str)) := by
  have p : ∀ x ∈ ys.map D.str, Pt x := fun x hx => by
    obtain ⟨y, hy, rfl⟩ := List.mem_map.mp hx
    exact pt_str (h y hy)
  have t : ∀ x ∈ ys.map D.str, Th 0 12 x := fun x hx => by
    obtain ⟨y, hy, rfl⟩ := List.mem_map.mp hx
    exact th_str (h y hy)
  have e1 := plAll_of fun x hx => (p x hx).a
  have e2 := pdAll_of fun x hx => (p x hx).b
  exact ⟨(th_tup (.inl e1) t (W := 5000) (by rw [List.length_map]; omega)).mono (by decide) (by decide), by simpa only [D.pl] using e1, by simpa only [D.pd] using e2⟩
theorem anyname_spec (Q : D → Prop) (h : ∀ ys : List Str, ys.length ≤ 9 → (∀ y ∈ ys, Ch y 12) → Q (.tup (ys.map D.str))) : m__law_any_name [.bag] Q := by
  unfold m__law_any_name
  simp -implicitDefEqProofs only [Dz.e_rng1, Dz.e_rngQ, Dz.e_seq, Dz.e_next, Dz.e_brk, Dz.e_cont, Dz.e_drop, Dz.e_ifS, Dz.e_asg, Dz.e_par, Dz.e_ret, Dz.e_retN, Dz.e_for, Dz.e_run1, Dz.e_run2, Dz.e_run3, Dz.e_run4, Dz.e_run5, Dz.e_run6, Dz.e_run7, Dz.e_run8, Dz.e_rep0, Dz.e_rep1, Dz.e_rep2, Dz.e_rep3, Dz.e_rep4, Dz.e_rep5, Dz.e_rep6, Dz.e_rep7, Dz.e_rep8, Dz.e_rep9, Dz.e_rep10, Dz.e_rep11, Dz.e_rep12, Dz.e_rep13, Dz.e_rep14, Dz.e_rep15, Dz.e_rep16, Dz.e_rep17, Dz.e_rep18, Dz.e_rep19, Dz.e_rep20, Dz.e_rep21, Dz.e_rep22, Dz.e_rep23, Dz.e_rep24, Dz.e_rep25, Dz.e_v0, Dz.e_s0, Dz.e_v1, Dz.e_s1, Dz.e_v2, Dz.e_s2, Dz.e_v3, Dz.e_s3, Dz.e_v4, Dz.e_s4, Dz.e_v5, Dz.e_s5, Dz.e_v6, Dz.e_s6, Dz.e_v7, Dz.e_s7, Dz.e_v8, Dz.e_s8, Dz.e_v9, Dz.e_s9, Dz.e_v10, Dz.e_s10, Dz.e_v11, Dz.e_s11, Dz.e_v12, Dz.e_s12, Dz.e_v13, Dz.e_s13, Dz.e_v14, Dz.e_s14, Dz.e_v15, Dz.e_s15, Dz.e_v16, Dz.e_s16, Dz.e_v17, Dz.e_s17, Dz.e_v18, Dz.e_s18, Dz.e_v19, Dz.e_s19, Dz.e_v20, Dz.e_s20, Dz.e_v21, Dz.e_s21, Dz.e_v22, Dz.e_s22, Dz.e_v23, Dz.e_s23, Dz.e_v24, Dz.e_s24, Dz.e_v25, Dz.e_s25, Dz.e_c, Dz.e_bin, Dz.e_un, Dz.e_test, Dz.e_tru, Dz.e_and, Dz.e_or, Dz.e_not, Dz.e_yes, Dz.e_andV, Dz.e_orV, Dz.e_notV, Dz.e_orT, Dz.e_andT, Dz.e_if, Dz.e_nil, Dz.e_cons, Dz.e_tup, Dz.e_lst, Dz.e_call, Dz.e_fn, Dz.e_chain, Dz.e_noP, Dz.e_part, Dz.e_sl, Dz.e_m1, Dz.e_m0, Dz.e_gv, Dz.e_gt, Dz.e_gc, Dz.e_gn, Dz.e_lc, Dz.e_w0, Dz.e_w1, Dz.e_list, Dz.e_tupI, Dz.e_strI, Dz.tru_bl, Dz.tru_int, Dz.tru_lst, Dz.tru_tup, Dz.tru_str, Dz.len_lst, Dz.len_tup, Dz.len_str, Dz.add_int', Dz.sub_int', Dz.lt_int', Dz.le_int', Dz.gt_int', Dz.ge_int', Dz.eq_int', Dz.ne_int', Dz.eq_str', Dz.ne_str', Dz.asBl_bl, Dz.asStr_str, Dz.asInt_int, Dz.asLst_lst, Dz.asTup_tup, Dz.add_str', Dz.add_lst', Dz.add_tup', Dz.mul_int', Dz.mul_str', Dz.mod_int'', Dz.div_int', Dz.ix_lst', Dz.ix_tup', Dz.ix_str', Dz.sl_lst', Dz.sl_tup', Dz.sl_str', Dz.neg_int', Dz.at0, Dz.at1, Dz.at2, Dz.at3, Dz.at4, Dz.at5, Dz.at6, Dz.at7, Dz.int_int', Dz.int_bl', Dz.tupF_lst, Dz.tupF_tup, Dz.lstF_lst, Dz.lstF_tup, Dz.is_bl', Dz.not_bl', Dz.take_eq, Dz.some_some, Dz.two_eq, List.length_cons, List.length_nil, List.map_cons, List.map_nil, List.append_nil, List.cons_append, List.nil_append, Nat.reduceAdd, Nat.reduceSub, Nat.reduceLeDiff, Nat.zero_add, Int.toNat_natCast, if_true, if_false, Bool.false_eq_true, Bool.not_true, Bool.not_false, true_and, and_true, ite_true, ite_false, isi_non_int, isi_non_bool, isi_non_str, isi_non_tuple, isi_non_list, isi_non_dict, isi_bl_int, isi_bl_bool, isi_bl_str, isi_bl_tuple, isi_bl_list, isi_bl_dict, isi_int_int, isi_int_bool, isi_int_str, isi_int_tuple, isi_int_list, isi_int_dict, isi_str_int, isi_str_bool, isi_str_str, isi_str_tuple, isi_str_list, isi_str_dict, isi_tup_int, isi_tup_bool, isi_tup_str, isi_tup_tuple, isi_tup_list, isi_tup_dict, isi_lst_int, isi_lst_bool, isi_lst_str, isi_lst_tuple, isi_lst_list, isi_lst_dict, isi_dic_int, isi_dic_bool, isi_dic_str, isi_dic_tuple, isi_dic_list, isi_dic_dict]
  refine ⟨⟨by decide, by decide⟩, fun r r0 r1 => ⟨⟨by decide, by decide⟩, fun s s0 s1 => ⟨by decide, ⟨by decide, by decide⟩, fun t t0 t1 => ?_⟩⟩⟩
  refine at_P (fun d => ∃ m : Int, d = .int m ∧ 0 ≤ m ∧ m ≤ 9) ?_ t0 t1 ?_
  · intro x hx
    simp only [List.mem_cons, List.not_mem_nil, or_false] at hx
    rcases hx with rfl | rfl <;> exact ⟨_, rfl, by omega, by omega⟩
  rintro _ ⟨m, rfl, m0, m1⟩
  refine ⟨⟨by decide, by decide⟩, fun u u0 u1 => ⟨by decide, ?_⟩⟩
  simp -implicitDefEqProofs only [Dz.e_rng1, Dz.e_rngQ, Dz.e_seq, Dz.e_next, Dz.e_brk, Dz.e_cont, Dz.e_drop, Dz.e_ifS, Dz.e_asg, Dz.e_par, Dz.e_ret, Dz.e_retN, Dz.e_for, Dz.e_run1, Dz.e_run2, Dz.e_run3, Dz.e_run4, Dz.e_run5, Dz.e_run6, Dz.e_run7, Dz.e_run8, Dz.e_rep0, Dz.e_rep1, Dz.e_rep2, Dz.e_rep3, Dz.e_rep4, Dz.e_rep5, Dz.e_rep6, Dz.e_rep7, Dz.e_rep8, Dz.e_rep9, Dz.e_rep10, Dz.e_rep11, Dz.e_rep12, Dz.e_rep13, Dz.e_rep14, Dz.e_rep15, Dz.e_rep16, Dz.e_rep17, Dz.e_rep18, Dz.e_rep19, Dz.e_rep20, Dz.e_rep21, Dz.e_rep22, Dz.e_rep23, Dz.e_rep24, Dz.e_rep25, Dz.e_v0, Dz.e_s0, Dz.e_v1, Dz.e_s1, Dz.e_v2, Dz.e_s2, Dz.e_v3, Dz.e_s3, Dz.e_v4, Dz.e_s4, Dz.e_v5, Dz.e_s5, Dz.e_v6, Dz.e_s6, Dz.e_v7, Dz.e_s7, Dz.e_v8, Dz.e_s8, Dz.e_v9, Dz.e_s9, Dz.e_v10, Dz.e_s10, Dz.e_v11, Dz.e_s11, Dz.e_v12, Dz.e_s12, Dz.e_v13, Dz.e_s13, Dz.e_v14, Dz.e_s14, Dz.e_v15, Dz.e_s15, Dz.e_v16, Dz.e_s16, Dz.e_v17, Dz.e_s17, Dz.e_v18, Dz.e_s18, Dz.e_v19, Dz.e_s19, Dz.e_v20, Dz.e_s20, Dz.e_v21, Dz.e_s21, Dz.e_v22, Dz.e_s22, Dz.e_v23, Dz.e_s23, Dz.e_v24, Dz.e_s24, Dz.e_v25, Dz.e_s25, Dz.e_c, Dz.e_bin, Dz.e_un, Dz.e_test, Dz.e_tru, Dz.e_and, Dz.e_or, Dz.e_not, Dz.e_yes, Dz.e_andV, Dz.e_orV, Dz.e_notV, Dz.e_orT, Dz.e_andT, Dz.e_if, Dz.e_nil, Dz.e_cons, Dz.e_tup, Dz.e_lst, Dz.e_call, Dz.e_fn, Dz.e_chain, Dz.e_noP, Dz.e_part, Dz.e_sl, Dz.e_m1, Dz.e_m0, Dz.e_gv, Dz.e_gt, Dz.e_gc, Dz.e_gn, Dz.e_lc, Dz.e_w0, Dz.e_w1, Dz.e_list, Dz.e_tupI, Dz.e_strI, Dz.tru_bl, Dz.tru_int, Dz.tru_lst, Dz.tru_tup, Dz.tru_str, Dz.len_lst, Dz.len_tup, Dz.len_str, Dz.add_int', Dz.sub_int', Dz.lt_int', Dz.le_int', Dz.gt_int', Dz.ge_int', Dz.eq_int', Dz.ne_int', Dz.eq_str', Dz.ne_str', Dz.asBl_bl, Dz.asStr_str, Dz.asInt_int, Dz.asLst_lst, Dz.asTup_tup, Dz.add_str', Dz.add_lst', Dz.add_tup', Dz.mul_int', Dz.mul_str', Dz.mod_int'', Dz.div_int', Dz.ix_lst', Dz.ix_tup', Dz.ix_str', Dz.sl_lst', Dz.sl_tup', Dz.sl_str', Dz.neg_int', Dz.at0, Dz.at1, Dz.at2, Dz.at3, Dz.at4, Dz.at5, Dz.at6, Dz.at7, Dz.int_int', Dz.int_bl', Dz.tupF_lst, Dz.tupF_tup, Dz.lstF_lst, Dz.lstF_tup, Dz.is_bl', Dz.not_bl', Dz.take_eq, Dz.some_some, Dz.two_eq, List.length_cons, List.length_nil, List.map_cons, List.map_nil, List.append_nil, List.cons_append, List.nil_append, Nat.reduceAdd, Nat.reduceSub, Nat.reduceLeDiff, Nat.zero_add, Int.toNat_natCast, if_true, if_false, Bool.false_eq_true, Bool.not_true, Bool.not_false, true_and, and_true, ite_true, ite_false, isi_non_int, isi_non_bool, isi_non_str, isi_non_tuple, isi_non_list, isi_non_dict, isi_bl_int, isi_bl_bool, isi_bl_str, isi_bl_tuple, isi_bl_list, isi_bl_dict, isi_int_int, isi_int_bool, isi_int_str, isi_int_tuple, isi_int_list, isi_int_dict, isi_str_int, isi_str_bool, isi_str_str, isi_str_tuple, isi_str_list, isi_str_dict, isi_tup_int, isi_tup_bool, isi_tup_str, isi_tup_tuple, isi_tup_list, isi_tup_dict, isi_lst_int, isi_lst_bool, isi_lst_str, isi_lst_tuple, isi_lst_list, isi_lst_dict, isi_dic_int, isi_dic_bool, isi_dic_str, isi_dic_tuple, isi_dic_list, isi_dic_dict]
  refine ⟨by omega, by omega, size_le (by rw [up_len]; omega), ?_⟩
  refine comp_allL _ D.str (fun s => Ch s 12) _ _ (fun k _ Q hQ => ?_) (fun ys hl hys => ?_)
  · simp -implicitDefEqProofs only [Dz.e_rng1, Dz.e_rngQ, Dz.e_seq, Dz.e_next, Dz.e_brk, Dz.e_cont, Dz.e_drop, Dz.e_ifS, Dz.e_asg, Dz.e_par, Dz.e_ret, Dz.e_retN, Dz.e_for, Dz.e_run1, Dz.e_run2, Dz.e_run3, Dz.e_run4, Dz.e_run5, Dz.e_run6, Dz.e_run7, Dz.e_run8, Dz.e_rep0, Dz.e_rep1, Dz.e_rep2, Dz.e_rep3, Dz.e_rep4, Dz.e_rep5, Dz.e_rep6, Dz.e_rep7, Dz.e_rep8, Dz.e_rep9, Dz.e_rep10, Dz.e_rep11, Dz.e_rep12, Dz.e_rep13, Dz.e_rep14, Dz.e_rep15, Dz.e_rep16, Dz.e_rep17, Dz.e_rep18, Dz.e_rep19, Dz.e_rep20, Dz.e_rep21, Dz.e_rep22, Dz.e_rep23, Dz.e_rep24, Dz.e_rep25, Dz.e_v0, Dz.e_s0, Dz.e_v1, Dz.e_s1, Dz.e_v2, Dz.e_s2, Dz.e_v3, Dz.e_s3, Dz.e_v4, Dz.e_s4, Dz.e_v5, Dz.e_s5, Dz.e_v6, Dz.e_s6, Dz.e_v7, Dz.e_s7, Dz.e_v8, Dz.e_s8, Dz.e_v9, Dz.e_s9, Dz.e_v10, Dz.e_s10, Dz.e_v11, Dz.e_s11, Dz.e_v12, Dz.e_s12, Dz.e_v13, Dz.e_s13, Dz.e_v14, Dz.e_s14, Dz.e_v15, Dz.e_s15, Dz.e_v16, Dz.e_s16, Dz.e_v17, Dz.e_s17, Dz.e_v18, Dz.e_s18, Dz.e_v19, Dz.e_s19, Dz.e_v20, Dz.e_s20, Dz.e_v21, Dz.e_s21, Dz.e_v22, Dz.e_s22, Dz.e_v23, Dz.e_s23, Dz.e_v24, Dz.e_s24, Dz.e_v25, Dz.e_s25, Dz.e_c, Dz.e_bin, Dz.e_un, Dz.e_test, Dz.e_tru, Dz.e_and, Dz.e_or, Dz.e_not, Dz.e_yes, Dz.e_andV, Dz.e_orV, Dz.e_notV, Dz.e_orT, Dz.e_andT, Dz.e_if, Dz.e_nil, Dz.e_cons, Dz.e_tup, Dz.e_lst, Dz.e_call, Dz.e_fn, Dz.e_chain, Dz.e_noP, Dz.e_part, Dz.e_sl, Dz.e_m1, Dz.e_m0, Dz.e_gv, Dz.e_gt, Dz.e_gc, Dz.e_gn, Dz.e_lc, Dz.e_w0, Dz.e_w1, Dz.e_list, Dz.e_tupI, Dz.e_strI, Dz.tru_bl, Dz.tru_int, Dz.tru_lst, Dz.tru_tup, Dz.tru_str, Dz.len_lst, Dz.len_tup, Dz.len_str, Dz.add_int', Dz.sub_int', Dz.lt_int', Dz.le_int', Dz.gt_int', Dz.ge_int', Dz.eq_int', Dz.ne_int', Dz.eq_str', Dz.ne_str', Dz.asBl_bl, Dz.asStr_str, Dz.asInt_int, Dz.asLst_lst, Dz.asTup_tup, Dz.add_str', Dz.add_lst', Dz.add_tup', Dz.mul_int', Dz.mul_str', Dz.mod_int'', Dz.div_int', Dz.ix_lst', Dz.ix_tup', Dz.ix_str', Dz.sl_lst', Dz.sl_tup', Dz.sl_str', Dz.neg_int', Dz.at0, Dz.at1, Dz.at2, Dz.at3, Dz.at4, Dz.at5, Dz.at6, Dz.at7, Dz.int_int', Dz.int_bl', Dz.tupF_lst, Dz.tupF_tup, Dz.lstF_lst, Dz.lstF_tup, Dz.is_bl', Dz.not_bl', Dz.take_eq, Dz.some_some, Dz.two_eq, List.length_cons, List.length_nil, List.map_cons, List.map_nil, List.append_nil, List.cons_append, List.nil_append, Nat.reduceAdd, Nat.reduceSub, Nat.reduceLeDiff, Nat.zero_add, Int.toNat_natCast, if_true, if_false, Bool.false_eq_true, Bool.not_true, Bool.not_false, true_and, and_true, ite_true, ite_false, isi_non_int, isi_non_bool, isi_non_str, isi_non_tuple, isi_non_list, isi_non_dict, isi_bl_int, isi_bl_bool, isi_bl_str, isi_bl_tuple, isi_bl_list, isi_bl_dict, isi_int_int, isi_int_bool, isi_int_str, isi_int_tuple, isi_int_list, isi_int_dict, isi_str_int, isi_str_bool, isi_str_str, isi_str_tuple, isi_str_list, isi_str_dict, isi_tup_int, isi_tup_bool, isi_tup_str, isi_tup_tuple, isi_tup_list, isi_tup_dict, isi_lst_int, isi_lst_bool, isi_lst_str, isi_lst_tuple, isi_lst_list, isi_lst_dict, isi_dic_int, isi_dic_bool, isi_dic_str, isi_dic_tuple, isi_dic_list, isi_dic_dict]
    refine text_spec _ fun x hx => ⟨by decide, ⟨by decide, by decide⟩, fun v v0 v1 => ?_⟩
    refine at_P (fun d => ∃ y, d = .str y ∧ Ch y 12) ?_ v0 v1 ?_
    · have c1 : Ch (Str.ofString "a") 12 := ⟨by decide +kernel, by decide +kernel⟩
      have c2 : Ch (Str.ofString "lists") 12 := ⟨by decide +kernel, by decide +kernel⟩
      have c3 : Ch (Str.ofString "zzzzzzzz") 12 := ⟨by decide +kernel, by decide +kernel⟩
      intro x hx
      simp only [List.mem_cons, List.not_mem_nil, or_false] at hx
      rcases hx with rfl | rfl | rfl
      · exact ⟨_, rfl, c1⟩
      · exact ⟨_, rfl, c2⟩
      · exact ⟨_, rfl, c3⟩
    rintro _ ⟨y, rfl, hy⟩
    refine ⟨by decide, at_P (fun d => ∃ y, d = .str y ∧ Ch y 12) ?_ u0 u1 ?_⟩
    · intro z hz
      simp only [List.mem_cons, List.not_mem_nil, or_false] at hz
      rcases hz with rfl | rfl
      · exact ⟨_, rfl, hx⟩
      · exact ⟨_, rfl, hy⟩
    rintro _ ⟨z, rfl, hz⟩
    exact hQ _ hz
  · rw [List.length_range] at hl
    exact h ys (by omega) hys
theorem bent_spec (xs : List D) (hl : xs.length ≤ 9) (hp : ∀ x ∈ xs, Pt x) (Q : D → Prop) (h : ∀ d, thing_ok d → Q d) : m__law_bent [.bag, .tup xs] Q := by
  unfold m__law_bent
  simp -implicitDefEqProofs only [Dz.e_rng1, Dz.e_rngQ, Dz.e_seq, Dz.e_next, Dz.e_brk, Dz.e_cont, Dz.e_drop, Dz.e_ifS, Dz.e_asg, Dz.e_par, Dz.e_ret, Dz.e_retN, Dz.e_for, Dz.e_run1, Dz.e_run2, Dz.e_run3, Dz.e_run4, Dz.e_run5, Dz.e_run6, Dz.e_run7, Dz.e_run8, Dz.e_rep0, Dz.e_rep1, Dz.e_rep2, Dz.e_rep3, Dz.e_rep4, Dz.e_rep5, Dz.e_rep6, Dz.e_rep7, Dz.e_rep8, Dz.e_rep9, Dz.e_rep10, Dz.e_rep11, Dz.e_rep12, Dz.e_rep13, Dz.e_rep14, Dz.e_rep15, Dz.e_rep16, Dz.e_rep17, Dz.e_rep18, Dz.e_rep19, Dz.e_rep20, Dz.e_rep21, Dz.e_rep22, Dz.e_rep23, Dz.e_rep24, Dz.e_rep25, Dz.e_v0, Dz.e_s0, Dz.e_v1, Dz.e_s1, Dz.e_v2, Dz.e_s2, Dz.e_v3, Dz.e_s3, Dz.e_v4, Dz.e_s4, Dz.e_v5, Dz.e_s5, Dz.e_v6, Dz.e_s6, Dz.e_v7, Dz.e_s7, Dz.e_v8, Dz.e_s8, Dz.e_v9, Dz.e_s9, Dz.e_v10, Dz.e_s10, Dz.e_v11, Dz.e_s11, Dz.e_v12, Dz.e_s12, Dz.e_v13, Dz.e_s13, Dz.e_v14, Dz.e_s14, Dz.e_v15, Dz.e_s15, Dz.e_v16, Dz.e_s16, Dz.e_v17, Dz.e_s17, Dz.e_v18, Dz.e_s18, Dz.e_v19, Dz.e_s19, Dz.e_v20, Dz.e_s20, Dz.e_v21, Dz.e_s21, Dz.e_v22, Dz.e_s22, Dz.e_v23, Dz.e_s23, Dz.e_v24, Dz.e_s24, Dz.e_v25, Dz.e_s25, Dz.e_c, Dz.e_bin, Dz.e_un, Dz.e_test, Dz.e_tru, Dz.e_and, Dz.e_or, Dz.e_not, Dz.e_yes, Dz.e_andV, Dz.e_orV, Dz.e_notV, Dz.e_orT, Dz.e_andT, Dz.e_if, Dz.e_nil, Dz.e_cons, Dz.e_tup, Dz.e_lst, Dz.e_call, Dz.e_fn, Dz.e_chain, Dz.e_noP, Dz.e_part, Dz.e_sl, Dz.e_m1, Dz.e_m0, Dz.e_gv, Dz.e_gt, Dz.e_gc, Dz.e_gn, Dz.e_lc, Dz.e_w0, Dz.e_w1, Dz.e_list, Dz.e_tupI, Dz.e_strI, Dz.tru_bl, Dz.tru_int, Dz.tru_lst, Dz.tru_tup, Dz.tru_str, Dz.len_lst, Dz.len_tup, Dz.len_str, Dz.add_int', Dz.sub_int', Dz.lt_int', Dz.le_int', Dz.gt_int', Dz.ge_int', Dz.eq_int', Dz.ne_int', Dz.eq_str', Dz.ne_str', Dz.asBl_bl, Dz.asStr_str, Dz.asInt_int, Dz.asLst_lst, Dz.asTup_tup, Dz.add_str', Dz.add_lst', Dz.add_tup', Dz.mul_int', Dz.mul_str', Dz.mod_int'', Dz.div_int', Dz.ix_lst', Dz.ix_tup', Dz.ix_str', Dz.sl_lst', Dz.sl_tup', Dz.sl_str', Dz.neg_int', Dz.at0, Dz.at1, Dz.at2, Dz.at3, Dz.at4, Dz.at5, Dz.at6, Dz.at7, Dz.int_int', Dz.int_bl', Dz.tupF_lst, Dz.tupF_tup, Dz.lstF_lst, Dz.lstF_tup, Dz.is_bl', Dz.not_bl', Dz.take_eq, Dz.some_some, Dz.two_eq, List.length_cons, List.length_nil, List.map_cons, List.map_nil, List.append_nil, List.cons_append, List.nil_append, Nat.reduceAdd, Nat.reduceSub, Nat.reduceLeDiff, Nat.zero_add, Int.toNat_natCast, if_true, if_false, Bool.false_eq_true, Bool.not_true, Bool.not_false, true_and, and_true, ite_true, ite_false, isi_non_int, isi_non_bool, isi_non_str, isi_non_tuple, isi_non_list, isi_non_dict, isi_bl_int, isi_bl_bool, isi_bl_str, isi_bl_tuple, isi_bl_list, isi_bl_dict, isi_int_int, isi_int_bool, isi_int_str, isi_int_tuple, isi_int_list, isi_int_dict, isi_str_int, isi_str_bool, isi_str_str, isi_str_tuple, isi_str_list, isi_str_dict, isi_tup_int, isi_tup_bool, isi_tup_str, isi_tup_tuple, isi_tup_list, isi_tup_dict, isi_lst_int, isi_lst_bool, isi_lst_str, isi_lst_tuple, isi_lst_list, isi_lst_dict, isi_dic_int, isi_dic_bool, isi_dic_str, isi_dic_tuple, isi_dic_list, isi_dic_dict, eqG_int, mulG_tup]
  refine ⟨⟨by omega, log_small (by omega) (by omega)⟩, fun r r0 r1 => ⟨⟨by decide, by decide⟩, fun t t0 t1 => ?_⟩⟩
  split
  · refine h _ ⟨(th_lst (plAll_of fun x hx => (hp x hx).a) (fun x hx => (hp x hx).t) (W := 60000) (by omega)).mono (by decide) (by decide), rfl⟩
  rename_i tz
  have tz' : t ≠ 0 := by simpa using tz
  refine odd_spec _ fun d hd => ?_
  obtain ⟨td, _⟩ := okB_th hd
  have ek : ∃ k : Nat, (if decide (1 < t) = true then (1 : Int) else 0) = (k : Int) ∧ k ≤ 1 := by
    split
    · exact ⟨1, rfl, by decide⟩
    · exact ⟨0, rfl, by decide⟩
  obtain ⟨k, ek, hk⟩ := ek
  rw [ek]
  have ej : ∃ j : Nat, (if decide (t < 3) = true then (1 : Int) else 0) = (j : Int) ∧ j ≤ 1 := by
    split
    · exact ⟨1, rfl, by decide⟩
    · exact ⟨0, rfl, by decide⟩
  obtain ⟨j, ej, hj⟩ := ej
  rw [ej, cut_to _ _ r0, cut_from _ _ (by omega)]
  have lf : (List.replicate ((k : Int)).toNat [d]).flatten.length = k := by rw [flat_len]; simp
  have mem : ∀ x ∈ xs.take r.toNat ++ (List.replicate ((k : Int)).toNat [d]).flatten ++ xs.drop (r + (j : Int)).toNat, x = d ∨ Pt x := by
    intro x hx
    rcases List.mem_append.mp hx with hx | hx
    · rcases List.mem_append.mp hx with hx | hx
      · exact .inr (hp x (List.mem_of_mem_take hx))
      · obtain ⟨l, hl1, hl2⟩ := List.mem_flatten.mp hx
        rw [(List.mem_replicate.mp hl1).2] at hl2
        exact .inl (by simpa using hl2)
    · exact .inr (hp x (List.mem_of_mem_drop hx))
  have len : (xs.take r.toNat ++ (List.replicate ((k : Int)).toNat [d]).flatten ++ xs.drop (r + (j : Int)).toNat).length ≤ 11 := by
    rw [List.length_append, List.length_append, lf, List.length_take, List.length_drop]; omega
  have lt : (xs.take r.toNat).length ≤ 9 := by rw [List.length_take]; omega
  have ld : (xs.drop (r + (j : Int)).toNat).length ≤ 9 := by rw [List.length_drop]; omega
  refine ⟨by decide, ⟨by simp, by omega, by omega⟩, size_le (by rw [lf]; omega), size_le (by rw [List.length_append, lf]; omega), h _ ⟨?_, rfl⟩⟩
  generalize xs.take r.toNat ++ (List.replicate ((k : Int)).toNat [d]).flatten ++ xs.drop (r + (j : Int)).toNat = out at mem len
  refine (th_tup (n := 5) (w := 5000) (W := 60000) ?_ (fun x hx => ?_) (by omega)).mono (by decide) (by decide)
  · have := td.hp
    unfold pq at this
    rcases Bool.or_eq_true_iff.mp this with e | e
    · exact .inl (plAll_of fun x hx => (mem x hx).elim (fun z => by rw [z]; exact e) fun z => z.a)
    · exact .inr (pdAll_of fun x hx => (mem x hx).elim (fun z => by rw [z]; exact e) fun z => z.b)
  · exact (mem x hx).elim (fun z => by rw [z]; exact td) fun z => z.t
theorem thing_spec (Q : D → Prop) (h : ∀ d, thing_ok d → Q d) : m__law_thing [.bag] Q := by
  unfold m__law_thing
  simp -implicitDefEqProofs only [Dz.e_rng1, Dz.e_rngQ, Dz.e_seq, Dz.e_next, Dz.e_brk, Dz.e_cont, Dz.e_drop, Dz.e_ifS, Dz.e_asg, Dz.e_par, Dz.e_ret, Dz.e_retN, Dz.e_for, Dz.e_run1, Dz.e_run2, Dz.e_run3, Dz.e_run4, Dz.e_run5, Dz.e_run6, Dz.e_run7, Dz.e_run8, Dz.e_rep0, Dz.e_rep1, Dz.e_rep2, Dz.e_rep3, Dz.e_rep4, Dz.e_rep5, Dz.e_rep6, Dz.e_rep7, Dz.e_rep8, Dz.e_rep9, Dz.e_rep10, Dz.e_rep11, Dz.e_rep12, Dz.e_rep13, Dz.e_rep14, Dz.e_rep15, Dz.e_rep16, Dz.e_rep17, Dz.e_rep18, Dz.e_rep19, Dz.e_rep20, Dz.e_rep21, Dz.e_rep22, Dz.e_rep23, Dz.e_rep24, Dz.e_rep25, Dz.e_v0, Dz.e_s0, Dz.e_v1, Dz.e_s1, Dz.e_v2, Dz.e_s2, Dz.e_v3, Dz.e_s3, Dz.e_v4, Dz.e_s4, Dz.e_v5, Dz.e_s5, Dz.e_v6, Dz.e_s6, Dz.e_v7, Dz.e_s7, Dz.e_v8, Dz.e_s8, Dz.e_v9, Dz.e_s9, Dz.e_v10, Dz.e_s10, Dz.e_v11, Dz.e_s11, Dz.e_v12, Dz.e_s12, Dz.e_v13, Dz.e_s13, Dz.e_v14, Dz.e_s14, Dz.e_v15, Dz.e_s15, Dz.e_v16, Dz.e_s16, Dz.e_v17, Dz.e_s17, Dz.e_v18, Dz.e_s18, Dz.e_v19, Dz.e_s19, Dz.e_v20, Dz.e_s20, Dz.e_v21, Dz.e_s21, Dz.e_v22, Dz.e_s22, Dz.e_v23, Dz.e_s23, Dz.e_v24, Dz.e_s24, Dz.e_v25, Dz.e_s25, Dz.e_c, Dz.e_bin, Dz.e_un, Dz.e_test, Dz.e_tru, Dz.e_and, Dz.e_or, Dz.e_not, Dz.e_yes, Dz.e_andV, Dz.e_orV, Dz.e_notV, Dz.e_orT, Dz.e_andT, Dz.e_if, Dz.e_nil, Dz.e_cons, Dz.e_tup, Dz.e_lst, Dz.e_call, Dz.e_fn, Dz.e_chain, Dz.e_noP, Dz.e_part, Dz.e_sl, Dz.e_m1, Dz.e_m0, Dz.e_gv, Dz.e_gt, Dz.e_gc, Dz.e_gn, Dz.e_lc, Dz.e_w0, Dz.e_w1, Dz.e_list, Dz.e_tupI, Dz.e_strI, Dz.tru_bl, Dz.tru_int, Dz.tru_lst, Dz.tru_tup, Dz.tru_str, Dz.len_lst, Dz.len_tup, Dz.len_str, Dz.add_int', Dz.sub_int', Dz.lt_int', Dz.le_int', Dz.gt_int', Dz.ge_int', Dz.eq_int', Dz.ne_int', Dz.eq_str', Dz.ne_str', Dz.asBl_bl, Dz.asStr_str, Dz.asInt_int, Dz.asLst_lst, Dz.asTup_tup, Dz.add_str', Dz.add_lst', Dz.add_tup', Dz.mul_int', Dz.mul_str', Dz.mod_int'', Dz.div_int', Dz.ix_lst', Dz.ix_tup', Dz.ix_str', Dz.sl_lst', Dz.sl_tup', Dz.sl_str', Dz.neg_int', Dz.at0, Dz.at1, Dz.at2, Dz.at3, Dz.at4, Dz.at5, Dz.at6, Dz.at7, Dz.int_int', Dz.int_bl', Dz.tupF_lst, Dz.tupF_tup, Dz.lstF_lst, Dz.lstF_tup, Dz.is_bl', Dz.not_bl', Dz.take_eq, Dz.some_some, Dz.two_eq, List.length_cons, List.length_nil, List.map_cons, List.map_nil, List.append_nil, List.cons_append, List.nil_append, Nat.reduceAdd, Nat.reduceSub, Nat.reduceLeDiff, Nat.zero_add, Int.toNat_natCast, if_true, if_false, Bool.false_eq_true, Bool.not_true, Bool.not_false, true_and, and_true, ite_true, ite_false, isi_non_int, isi_non_bool, isi_non_str, isi_non_tuple, isi_non_list, isi_non_dict, isi_bl_int, isi_bl_bool, isi_bl_str, isi_bl_tuple, isi_bl_list, isi_bl_dict, isi_int_int, isi_int_bool, isi_int_str, isi_int_tuple, isi_int_list, isi_int_dict, isi_str_int, isi_str_bool, isi_str_str, isi_str_tuple, isi_str_list, isi_str_dict, isi_tup_int, isi_tup_bool, isi_tup_str, isi_tup_tuple, isi_tup_list, isi_tup_dict, isi_lst_int, isi_lst_bool, isi_lst_str, isi_lst_tuple, isi_lst_list, isi_lst_dict, isi_dic_int, isi_dic_bool, isi_dic_str, isi_dic_tuple, isi_dic_list, isi_dic_dict, eqG_int]
  refine ⟨⟨by decide, by decide⟩, fun r r0 r1 => ?_⟩
  have tstr : ∀ s, Ch s 12 → thing_ok (.str s) := fun s hs => ⟨(th_str hs).mono (by decide) (by decide), rfl⟩
  split
  · rename_i r2
    have r2' : r < 2 := of_decide_eq_true r2
    refine number_spec _ fun i i0 i1 => text_spec _ fun s hs => ⟨by decide, ?_⟩
    refine at_P thing_ok ?_ r0 (by simpa using r2') h
    intro x hx
    simp only [List.mem_cons, List.not_mem_nil, or_false] at hx
    rcases hx with rfl | rfl
    · refine ⟨(th_int i0 i1).mono (by decide) (by decide), ?_⟩
      show (decide _ && decide _) = true
      have e1 : -(10 ^ 60) ≤ i := Int.le_trans (by decide) i0
      have e2 : i ≤ 10 ^ 60 := Int.le_trans i1 (by decide)
      rw [decide_eq_true e1, decide_eq_true e2]; rfl
    · exact tstr s hs
  rename_i r2
  have r2' : ¬ r < 2 := fun z => r2 (decide_eq_true z)
  split
  · exact odd_spec _ fun d hd => h d ⟨(okB_th hd).1.mono (by decide) (by decide), (okB_th hd).2⟩
  rename_i r3
  have r3' : r ≠ 2 := by simpa using r3
  refine anyname_spec _ fun a la ha => anyname_spec _ fun b lb hb => text_spec _ fun s hs => ⟨by decide, text_spec _ fun t ht => text_spec _ fun u hu => ⟨by decide, by decide, ?_⟩⟩
  refine at_P (fun d => ∃ xs, d = .tup xs ∧ xs.length ≤ 9 ∧ ∀ x ∈ xs, Pt x) ?_ (by omega) (by simp only [List.length_cons, List.length_nil]; omega) ?_
  · intro x hx
    simp only [List.mem_cons, List.not_mem_nil, or_false] at hx
    rcases hx with rfl | rfl | rfl
    · refine ⟨_, rfl, by rw [List.length_map]; exact la, fun x hx => ?_⟩
      obtain ⟨y, hy, rfl⟩ := List.mem_map.mp hx
      exact pt_str (ha y hy)
    · refine ⟨_, rfl, by simp, fun x hx => ?_⟩
      simp only [List.mem_cons, List.not_mem_nil, or_false] at hx
      rcases hx with rfl | rfl
      · exact pt_name lb hb
      · exact pt_str hs
    · refine ⟨_, rfl, by simp, fun x hx => ?_⟩
      simp only [List.mem_cons, List.not_mem_nil, or_false] at hx
      rcases hx with rfl | rfl
      · exact pt_str ht
      · exact pt_str hu
  rintro _ ⟨xs, rfl, hl, hp⟩
  refine ⟨⟨by decide, by decide⟩, fun p p0 p1 => ?_⟩
  split
  · exact bent_spec xs hl hp Q h
  · exact h _ ⟨(th_tup (.inl (plAll_of fun x hx => (hp x hx).a)) (fun x hx => (hp x hx).t) (W := 60000) (by omega)).mono (by decide) (by decide), rfl⟩
theorem hlaw : m_law { nx := fun _ => False, rt := fun d => d = .bl true } law0 := law_of thing_spec
end K11

namespace K11
open PySem PySem.Spec PyProof.Rows L2 Dz
theorem law_all {P : Program} {w : World} {K : PySem.W.Frag} {mg : Str → Option Value} {base : Heap} (T : Txt K mg) : FnG P w K mg base CX0 5 T.f_law T.d_law ["_law_script"] (spLaw K) := by
  have Gis_integer := ok_is_integer (P := P) (w := w) (base := base) T 
  have Gis_word := ok_is_word (P := P) (w := w) (base := base) T 
  have G_law_within := ok__law_within (P := P) (w := w) (base := base) T 
  have G_law_is_word := ok__law_is_word (P := P) (w := w) (base := base) T 
  have G_law_is_couple := ok__law_is_couple (P := P) (w := w) (base := base) T 
  have Gis_name := ok_is_name (P := P) (w := w) (base := base) T Gis_word
  have Gis_day := ok_is_day (P := P) (w := w) (base := base) T Gis_integer
  have Gis_count := ok_is_count (P := P) (w := w) (base := base) T Gis_integer
  have Gis_pair := ok_is_pair (P := P) (w := w) (base := base) T Gis_word
  have G_law_is_name := ok__law_is_name (P := P) (w := w) (base := base) T G_law_is_word
  have Gis_holder := ok_is_holder (P := P) (w := w) (base := base) T Gis_name Gis_word
  have G_law_due := ok__law_due (P := P) (w := w) (base := base) T G_law_is_couple G_law_is_name G_law_is_word G_law_within
  have G_law_asked := ok__law_asked (P := P) (w := w) (base := base) T Gis_integer Gis_word Gis_name Gis_holder Gis_day Gis_count Gis_pair
  have G_law_bag := ok__law_bag (P := P) (w := w) (base := base) T 
  have G_law_take := ok__law_take (P := P) (w := w) (base := base) T 
  have G_law_number := ok__law_number (P := P) (w := w) (base := base) T G_law_take
  have G_law_text := ok__law_text (P := P) (w := w) (base := base) T G_law_take
  have G_law_odd := ok__law_odd (P := P) (w := w) (base := base) T G_law_take
  have G_law_any_name := ok__law_any_name (P := P) (w := w) (base := base) T G_law_take G_law_text
  have G_law_bent := ok__law_bent (P := P) (w := w) (base := base) T G_law_take G_law_odd
  have G_law_thing := ok__law_thing (P := P) (w := w) (base := base) T G_law_take G_law_odd G_law_bent G_law_any_name G_law_number G_law_text
  exact ok_law T G_law_bag G_law_thing G_law_due G_law_asked hlaw

theorem all_mk {P : Program} {w : World} {K : PySem.W.Frag} {h : Heap} {mg : Str → Option Value} {fa : Addr} (X : K.In h) (G : h.Ns mainGlobals mg) (hfa : mg "law" = some (.ref fa))
    {f1 f2 f3 f4 f5 f6 f7 f8 f9 f10 f11 f12 f13 f14 f15 f16 f17 f18 f19 f20 f21 f22 : Addr} {od1 an1 od2 an2 od3 an3 od4 an4 od5 an5 od6 an6 od7 an7 od8 an8 od9 an9 od10 an10 od11 an11 od12 an12 od13 an13 od14 an14 od15 an15 od16 an16 od17 an17 od18 an18 od19 an19 od20 an20 od21 an21 od22 an22 : Option Addr} {sl1 sl2 sl3 sl4 sl5 sl6 sl7 sl8 sl9 sl10 sl11 sl12 sl13 sl14 sl15 sl16 sl17 sl18 sl19 sl20 sl21 sl22 : Array (Option Value)} {oc1 kV1 dc1 pm1 cd1 ct1 oc2 kV2 dc2 pm2 cd2 ct2 oc3 kV3 dc3 pm3 cd3 ct3 oc4 kV4 dc4 pm4 cd4 ct4 oc5 kV5 dc5 pm5 cd5 ct5 oc6 kV6 dc6 pm6 cd6 ct6 oc7 kV7 dc7 pm7 cd7 ct7 oc8 kV8 dc8 pm8 cd8 ct8 oc9 kV9 dc9 pm9 cd9 ct9 oc10 kV10 dc10 pm10 cd10 ct10 oc11 kV11 dc11 pm11 cd11 ct11 oc12 kV12 dc12 pm12 cd12 ct12 oc13 kV13 dc13 pm13 cd13 ct13 oc14 kV14 dc14 pm14 cd14 ct14 oc15 kV15 dc15 pm15 cd15 ct15 oc16 kV16 dc16 pm16 cd16 ct16 oc17 kV17 dc17 pm17 cd17 ct17 oc18 kV18 dc18 pm18 cd18 ct18 oc19 kV19 dc19 pm19 cd19 ct19 oc20 kV20 dc20 pm20 cd20 ct20 oc21 kV21 dc21 pm21 cd21 ct21 oc22 kV22 dc22 pm22 cd22 ct22 : Value}
    (a1 : PySem.W.nsIn K mainGlobals "is_integer" = some (some (.ref f1))) (l1 : K.lookup f1 = some ⟨oc1, od1, .func (PySem.W.fnOf "is_integer" "is_integer" (defArgs s_is_integer) (defBody s_is_integer) (defScope s_is_integer) .none kV1 dc1 pm1 an1 cd1 ct1), sl1⟩) (c1 : PySem.W.codeIn K cd1 "is_integer" = true) (k1 : PySem.W.keepIn K (.ref f1) = true)
    (a2 : PySem.W.nsIn K mainGlobals "is_word" = some (some (.ref f2))) (l2 : K.lookup f2 = some ⟨oc2, od2, .func (PySem.W.fnOf "is_word" "is_word" (defArgs s_is_word) (defBody s_is_word) (defScope s_is_word) .none kV2 dc2 pm2 an2 cd2 ct2), sl2⟩) (c2 : PySem.W.codeIn K cd2 "is_word" = true) (k2 : PySem.W.keepIn K (.ref f2) = true)
    (a3 : PySem.W.nsIn K mainGlobals "is_name" = some (some (.ref f3))) (l3 : K.lookup f3 = some ⟨oc3, od3, .func (PySem.W.fnOf "is_name" "is_name" (defArgs s_is_name) (defBody s_is_name) (defScope s_is_name) .none kV3 dc3 pm3 an3 cd3 ct3), sl3⟩) (c3 : PySem.W.codeIn K cd3 "is_name" = true) (k3 : PySem.W.keepIn K (.ref f3) = true)
    (a4 : PySem.W.nsIn K mainGlobals "is_holder" = some (some (.ref f4))) (l4 : K.lookup f4 = some ⟨oc4, od4, .func (PySem.W.fnOf "is_holder" "is_holder" (defArgs s_is_holder) (defBody s_is_holder) (defScope s_is_holder) .none kV4 dc4 pm4 an4 cd4 ct4), sl4⟩) (c4 : PySem.W.codeIn K cd4 "is_holder" = true) (k4 : PySem.W.keepIn K (.ref f4) = true)
    (a5 : PySem.W.nsIn K mainGlobals "is_day" = some (some (.ref f5))) (l5 : K.lookup f5 = some ⟨oc5, od5, .func (PySem.W.fnOf "is_day" "is_day" (defArgs s_is_day) (defBody s_is_day) (defScope s_is_day) .none kV5 dc5 pm5 an5 cd5 ct5), sl5⟩) (c5 : PySem.W.codeIn K cd5 "is_day" = true) (k5 : PySem.W.keepIn K (.ref f5) = true)
    (a6 : PySem.W.nsIn K mainGlobals "is_count" = some (some (.ref f6))) (l6 : K.lookup f6 = some ⟨oc6, od6, .func (PySem.W.fnOf "is_count" "is_count" (defArgs s_is_count) (defBody s_is_count) (defScope s_is_count) .none kV6 dc6 pm6 an6 cd6 ct6), sl6⟩) (c6 : PySem.W.codeIn K cd6 "is_count" = true) (k6 : PySem.W.keepIn K (.ref f6) = true)
    (a7 : PySem.W.nsIn K mainGlobals "is_pair" = some (some (.ref f7))) (l7 : K.lookup f7 = some ⟨oc7, od7, .func (PySem.W.fnOf "is_pair" "is_pair" (defArgs s_is_pair) (defBody s_is_pair) (defScope s_is_pair) .none kV7 dc7 pm7 an7 cd7 ct7), sl7⟩) (c7 : PySem.W.codeIn K cd7 "is_pair" = true) (k7 : PySem.W.keepIn K (.ref f7) = true)
    (a8 : PySem.W.nsIn K mainGlobals "_law_bag" = some (some (.ref f8))) (l8 : K.lookup f8 = some ⟨oc8, od8, .func (PySem.W.fnOf "_law_bag" "_law_bag" (defArgs s__law_bag) (defBody s__law_bag) (defScope s__law_bag) .none kV8 dc8 pm8 an8 cd8 ct8), sl8⟩) (c8 : PySem.W.codeIn K cd8 "_law_bag" = true) (k8 : PySem.W.keepIn K (.ref f8) = true)
    (a9 : PySem.W.nsIn K mainGlobals "_law_take" = some (some (.ref f9))) (l9 : K.lookup f9 = some ⟨oc9, od9, .func (PySem.W.fnOf "_law_take" "_law_take" (defArgs s__law_take) (defBody s__law_take) (defScope s__law_take) .none kV9 dc9 pm9 an9 cd9 ct9), sl9⟩) (c9 : PySem.W.codeIn K cd9 "_law_take" = true) (k9 : PySem.W.keepIn K (.ref f9) = true)
    (a10 : PySem.W.nsIn K mainGlobals "_law_within" = some (some (.ref f10))) (l10 : K.lookup f10 = some ⟨oc10, od10, .func (PySem.W.fnOf "_law_within" "_law_within" (defArgs s__law_within) (defBody s__law_within) (defScope s__law_within) .none kV10 dc10 pm10 an10 cd10 ct10), sl10⟩) (c10 : PySem.W.codeIn K cd10 "_law_within" = true) (k10 : PySem.W.keepIn K (.ref f10) = true)
    (a11 : PySem.W.nsIn K mainGlobals "_law_is_word" = some (some (.ref f11))) (l11 : K.lookup f11 = some ⟨oc11, od11, .func (PySem.W.fnOf "_law_is_word" "_law_is_word" (defArgs s__law_is_word) (defBody s__law_is_word) (defScope s__law_is_word) .none kV11 dc11 pm11 an11 cd11 ct11), sl11⟩) (c11 : PySem.W.codeIn K cd11 "_law_is_word" = true) (k11 : PySem.W.keepIn K (.ref f11) = true)
    (a12 : PySem.W.nsIn K mainGlobals "_law_is_name" = some (some (.ref f12))) (l12 : K.lookup f12 = some ⟨oc12, od12, .func (PySem.W.fnOf "_law_is_name" "_law_is_name" (defArgs s__law_is_name) (defBody s__law_is_name) (defScope s__law_is_name) .none kV12 dc12 pm12 an12 cd12 ct12), sl12⟩) (c12 : PySem.W.codeIn K cd12 "_law_is_name" = true) (k12 : PySem.W.keepIn K (.ref f12) = true)
    (a13 : PySem.W.nsIn K mainGlobals "_law_is_couple" = some (some (.ref f13))) (l13 : K.lookup f13 = some ⟨oc13, od13, .func (PySem.W.fnOf "_law_is_couple" "_law_is_couple" (defArgs s__law_is_couple) (defBody s__law_is_couple) (defScope s__law_is_couple) .none kV13 dc13 pm13 an13 cd13 ct13), sl13⟩) (c13 : PySem.W.codeIn K cd13 "_law_is_couple" = true) (k13 : PySem.W.keepIn K (.ref f13) = true)
    (a14 : PySem.W.nsIn K mainGlobals "_law_number" = some (some (.ref f14))) (l14 : K.lookup f14 = some ⟨oc14, od14, .func (PySem.W.fnOf "_law_number" "_law_number" (defArgs s__law_number) (defBody s__law_number) (defScope s__law_number) .none kV14 dc14 pm14 an14 cd14 ct14), sl14⟩) (c14 : PySem.W.codeIn K cd14 "_law_number" = true) (k14 : PySem.W.keepIn K (.ref f14) = true)
    (a15 : PySem.W.nsIn K mainGlobals "_law_text" = some (some (.ref f15))) (l15 : K.lookup f15 = some ⟨oc15, od15, .func (PySem.W.fnOf "_law_text" "_law_text" (defArgs s__law_text) (defBody s__law_text) (defScope s__law_text) .none kV15 dc15 pm15 an15 cd15 ct15), sl15⟩) (c15 : PySem.W.codeIn K cd15 "_law_text" = true) (k15 : PySem.W.keepIn K (.ref f15) = true)
    (a16 : PySem.W.nsIn K mainGlobals "_law_any_name" = some (some (.ref f16))) (l16 : K.lookup f16 = some ⟨oc16, od16, .func (PySem.W.fnOf "_law_any_name" "_law_any_name" (defArgs s__law_any_name) (defBody s__law_any_name) (defScope s__law_any_name) .none kV16 dc16 pm16 an16 cd16 ct16), sl16⟩) (c16 : PySem.W.codeIn K cd16 "_law_any_name" = true) (k16 : PySem.W.keepIn K (.ref f16) = true)
    (a17 : PySem.W.nsIn K mainGlobals "_law_odd" = some (some (.ref f17))) (l17 : K.lookup f17 = some ⟨oc17, od17, .func (PySem.W.fnOf "_law_odd" "_law_odd" (defArgs s__law_odd) (defBody s__law_odd) (defScope s__law_odd) .none kV17 dc17 pm17 an17 cd17 ct17), sl17⟩) (c17 : PySem.W.codeIn K cd17 "_law_odd" = true) (k17 : PySem.W.keepIn K (.ref f17) = true)
    (a18 : PySem.W.nsIn K mainGlobals "_law_bent" = some (some (.ref f18))) (l18 : K.lookup f18 = some ⟨oc18, od18, .func (PySem.W.fnOf "_law_bent" "_law_bent" (defArgs s__law_bent) (defBody s__law_bent) (defScope s__law_bent) .none kV18 dc18 pm18 an18 cd18 ct18), sl18⟩) (c18 : PySem.W.codeIn K cd18 "_law_bent" = true) (k18 : PySem.W.keepIn K (.ref f18) = true)
    (a19 : PySem.W.nsIn K mainGlobals "_law_thing" = some (some (.ref f19))) (l19 : K.lookup f19 = some ⟨oc19, od19, .func (PySem.W.fnOf "_law_thing" "_law_thing" (defArgs s__law_thing) (defBody s__law_thing) (defScope s__law_thing) .none kV19 dc19 pm19 an19 cd19 ct19), sl19⟩) (c19 : PySem.W.codeIn K cd19 "_law_thing" = true) (k19 : PySem.W.keepIn K (.ref f19) = true)
    (a20 : PySem.W.nsIn K mainGlobals "_law_due" = some (some (.ref f20))) (l20 : K.lookup f20 = some ⟨oc20, od20, .func (PySem.W.fnOf "_law_due" "_law_due" (defArgs s__law_due) (defBody s__law_due) (defScope s__law_due) .none kV20 dc20 pm20 an20 cd20 ct20), sl20⟩) (c20 : PySem.W.codeIn K cd20 "_law_due" = true) (k20 : PySem.W.keepIn K (.ref f20) = true)
    (a21 : PySem.W.nsIn K mainGlobals "_law_asked" = some (some (.ref f21))) (l21 : K.lookup f21 = some ⟨oc21, od21, .func (PySem.W.fnOf "_law_asked" "_law_asked" (defArgs s__law_asked) (defBody s__law_asked) (defScope s__law_asked) .none kV21 dc21 pm21 an21 cd21 ct21), sl21⟩) (c21 : PySem.W.codeIn K cd21 "_law_asked" = true) (k21 : PySem.W.keepIn K (.ref f21) = true)
    (a22 : PySem.W.nsIn K mainGlobals "law" = some (some (.ref f22))) (l22 : K.lookup f22 = some ⟨oc22, od22, .func (PySem.W.fnOf "law" "law" (defArgs s_law) (defBody s_law) (defScope s_law) .none kV22 dc22 pm22 an22 cd22 ct22), sl22⟩) (c22 : PySem.W.codeIn K cd22 "law" = true) (k22 : PySem.W.keepIn K (.ref f22) = true)
    (z0 : PySem.W.nsIn K mainGlobals "abs" = some none)
    (z1 : PySem.W.nsIn K mainGlobals "all" = some none)
    (z2 : PySem.W.nsIn K mainGlobals "bool" = some none)
    (z3 : PySem.W.nsIn K mainGlobals "int" = some none)
    (z4 : PySem.W.nsIn K mainGlobals "isinstance" = some none)
    (z5 : PySem.W.nsIn K mainGlobals "len" = some none)
    (z6 : PySem.W.nsIn K mainGlobals "list" = some none)
    (z7 : PySem.W.nsIn K mainGlobals "range" = some none)
    (z8 : PySem.W.nsIn K mainGlobals "repr" = some none)
    (z9 : PySem.W.nsIn K mainGlobals "str" = some none)
    (z10 : PySem.W.nsIn K mainGlobals "tuple" = some none)
    {t0 : Tok} (q0 : PySem.W.nsIn K mainGlobals "GREATEST_COUNT" = some (some (.int 8 t0)))
    {t1 : Tok} (q1 : PySem.W.nsIn K mainGlobals "LAST_DAY" = some (some (.int 1000000000 t1)))
    {t2 : Tok} (q2 : PySem.W.nsIn K mainGlobals "LETTERS" = some (some (.str (Str.ofString "abcdefghijklmnopqrstuvwxyz") t2)))
    {t3 : Tok} (q3 : PySem.W.nsIn K mainGlobals "LONGEST_WORD" = some (some (.int 8 t3)))
    (mk : ∀ (T : Txt K mg) (base : Heap), FnG P w K mg base CX0 5 T.f_law T.d_law ["_law_script"] (spLaw K)) :
    ∃ fd : FuncData, (∀ (s : Shared) (v : Value), BindsTo s fd ⟨[v], []⟩ [("_law_script", v)]) ∧ ∀ base : Heap, K.In base → base.Ns mainGlobals mg → FnG P w K mg base CX0 5 fa fd ["_law_script"] (spLaw K) := by
  have e := hfa.symm.trans (PySem.W.mg_of X G a22)
  cases e
  have F1 := fun_mk (st := s_is_integer) l1 c1 k1
  have b1 := F1.binds (ps := ["thing"]) fun _ _ _ _ _ _ us hl => match us, hl with | [_], _ => rfl
  have F2 := fun_mk (st := s_is_word) l2 c2 k2
  have b2 := F2.binds (ps := ["thing"]) fun _ _ _ _ _ _ us hl => match us, hl with | [_], _ => rfl
  have F3 := fun_mk (st := s_is_name) l3 c3 k3
  have b3 := F3.binds (ps := ["thing"]) fun _ _ _ _ _ _ us hl => match us, hl with | [_], _ => rfl
  have F4 := fun_mk (st := s_is_holder) l4 c4 k4
  have b4 := F4.binds (ps := ["thing"]) fun _ _ _ _ _ _ us hl => match us, hl with | [_], _ => rfl
  have F5 := fun_mk (st := s_is_day) l5 c5 k5
  have b5 := F5.binds (ps := ["thing"]) fun _ _ _ _ _ _ us hl => match us, hl with | [_], _ => rfl
  have F6 := fun_mk (st := s_is_count) l6 c6 k6
  have b6 := F6.binds (ps := ["thing"]) fun _ _ _ _ _ _ us hl => match us, hl with | [_], _ => rfl
  have F7 := fun_mk (st := s_is_pair) l7 c7 k7
  have b7 := F7.binds (ps := ["thing"]) fun _ _ _ _ _ _ us hl => match us, hl with | [_], _ => rfl
  have F8 := fun_mk (st := s__law_bag) l8 c8 k8
  have b8 := F8.binds (ps := ["_law_script"]) fun _ _ _ _ _ _ us hl => match us, hl with | [_], _ => rfl
  have F9 := fun_mk (st := s__law_take) l9 c9 k9
  have b9 := F9.binds (ps := ["_law_bag_here", "_law_many"]) fun _ _ _ _ _ _ us hl => match us, hl with | [_, _], _ => rfl
  have F10 := fun_mk (st := s__law_within) l10 c10 k10
  have b10 := F10.binds (ps := ["_law_thing_here", "_law_low", "_law_high"]) fun _ _ _ _ _ _ us hl => match us, hl with | [_, _, _], _ => rfl
  have F11 := fun_mk (st := s__law_is_word) l11 c11 k11
  have b11 := F11.binds (ps := ["_law_thing_here"]) fun _ _ _ _ _ _ us hl => match us, hl with | [_], _ => rfl
  have F12 := fun_mk (st := s__law_is_name) l12 c12 k12
  have b12 := F12.binds (ps := ["_law_thing_here"]) fun _ _ _ _ _ _ us hl => match us, hl with | [_], _ => rfl
  have F13 := fun_mk (st := s__law_is_couple) l13 c13 k13
  have b13 := F13.binds (ps := ["_law_thing_here"]) fun _ _ _ _ _ _ us hl => match us, hl with | [_], _ => rfl
  have F14 := fun_mk (st := s__law_number) l14 c14 k14
  have b14 := F14.binds (ps := ["_law_bag_here"]) fun _ _ _ _ _ _ us hl => match us, hl with | [_], _ => rfl
  have F15 := fun_mk (st := s__law_text) l15 c15 k15
  have b15 := F15.binds (ps := ["_law_bag_here"]) fun _ _ _ _ _ _ us hl => match us, hl with | [_], _ => rfl
  have F16 := fun_mk (st := s__law_any_name) l16 c16 k16
  have b16 := F16.binds (ps := ["_law_bag_here"]) fun _ _ _ _ _ _ us hl => match us, hl with | [_], _ => rfl
  have F17 := fun_mk (st := s__law_odd) l17 c17 k17
  have b17 := F17.binds (ps := ["_law_bag_here"]) fun _ _ _ _ _ _ us hl => match us, hl with | [_], _ => rfl
  have F18 := fun_mk (st := s__law_bent) l18 c18 k18
  have b18 := F18.binds (ps := ["_law_bag_here", "_law_thing_here"]) fun _ _ _ _ _ _ us hl => match us, hl with | [_, _], _ => rfl
  have F19 := fun_mk (st := s__law_thing) l19 c19 k19
  have b19 := F19.binds (ps := ["_law_bag_here"]) fun _ _ _ _ _ _ us hl => match us, hl with | [_], _ => rfl
  have F20 := fun_mk (st := s__law_due) l20 c20 k20
  have b20 := F20.binds (ps := ["_law_thing_here"]) fun _ _ _ _ _ _ us hl => match us, hl with | [_], _ => rfl
  have F21 := fun_mk (st := s__law_asked) l21 c21 k21
  have b21 := F21.binds (ps := ["_law_thing_here"]) fun _ _ _ _ _ _ us hl => match us, hl with | [_], _ => rfl
  have F22 := fun_mk (st := s_law) l22 c22 k22
  have b22 := F22.binds (ps := ["_law_script"]) fun _ _ _ _ _ _ us hl => match us, hl with | [_], _ => rfl
  let T : Txt K mg := { f_is_integer := f1, d_is_integer := _, F_is_integer := F1, b_is_integer := b1, g_is_integer := PySem.W.mg_of X G a1, f_is_word := f2, d_is_word := _, F_is_word := F2, b_is_word := b2, g_is_word := PySem.W.mg_of X G a2, f_is_name := f3, d_is_name := _, F_is_name := F3, b_is_name := b3, g_is_name := PySem.W.mg_of X G a3, f_is_holder := f4, d_is_holder := _, F_is_holder := F4, b_is_holder := b4, g_is_holder := PySem.W.mg_of X G a4, f_is_day := f5, d_is_day := _, F_is_day := F5, b_is_day := b5, g_is_day := PySem.W.mg_of X G a5, f_is_count := f6, d_is_count := _, F_is_count := F6, b_is_count := b6, g_is_count := PySem.W.mg_of X G a6, f_is_pair := f7, d_is_pair := _, F_is_pair := F7, b_is_pair := b7, g_is_pair := PySem.W.mg_of X G a7, f__law_bag := f8, d__law_bag := _, F__law_bag := F8, b__law_bag := b8, g__law_bag := PySem.W.mg_of X G a8, f__law_take := f9, d__law_take := _, F__law_take := F9, b__law_take := b9, g__law_take := PySem.W.mg_of X G a9, f__law_within := f10, d__law_within := _, F__law_within := F10, b__law_within := b10, g__law_within := PySem.W.mg_of X G a10, f__law_is_word := f11, d__law_is_word := _, F__law_is_word := F11, b__law_is_word := b11, g__law_is_word := PySem.W.mg_of X G a11, f__law_is_name := f12, d__law_is_name := _, F__law_is_name := F12, b__law_is_name := b12, g__law_is_name := PySem.W.mg_of X G a12, f__law_is_couple := f13, d__law_is_couple := _, F__law_is_couple := F13, b__law_is_couple := b13, g__law_is_couple := PySem.W.mg_of X G a13, f__law_number := f14, d__law_number := _, F__law_number := F14, b__law_number := b14, g__law_number := PySem.W.mg_of X G a14, f__law_text := f15, d__law_text := _, F__law_text := F15, b__law_text := b15, g__law_text := PySem.W.mg_of X G a15, f__law_any_name := f16, d__law_any_name := _, F__law_any_name := F16, b__law_any_name := b16, g__law_any_name := PySem.W.mg_of X G a16, f__law_odd := f17, d__law_odd := _, F__law_odd := F17, b__law_odd := b17, g__law_odd := PySem.W.mg_of X G a17, f__law_bent := f18, d__law_bent := _, F__law_bent := F18, b__law_bent := b18, g__law_bent := PySem.W.mg_of X G a18, f__law_thing := f19, d__law_thing := _, F__law_thing := F19, b__law_thing := b19, g__law_thing := PySem.W.mg_of X G a19, f__law_due := f20, d__law_due := _, F__law_due := F20, b__law_due := b20, g__law_due := PySem.W.mg_of X G a20, f__law_asked := f21, d__law_asked := _, F__law_asked := F21, b__law_asked := b21, g__law_asked := PySem.W.mg_of X G a21, f_law := fa, d_law := _, F_law := F22, b_law := b22, g_law := PySem.W.mg_of X G a22, z_abs := PySem.W.mg_none_of X G z0, z_all := PySem.W.mg_none_of X G z1, z_bool := PySem.W.mg_none_of X G z2, z_int := PySem.W.mg_none_of X G z3, z_isinstance := PySem.W.mg_none_of X G z4, z_len := PySem.W.mg_none_of X G z5, z_list := PySem.W.mg_none_of X G z6, z_range := PySem.W.mg_none_of X G z7, z_repr := PySem.W.mg_none_of X G z8, z_str := PySem.W.mg_none_of X G z9, z_tuple := PySem.W.mg_none_of X G z10, c_GREATEST_COUNT := ⟨_, PySem.W.mg_of X G q0⟩, c_LAST_DAY := ⟨_, PySem.W.mg_of X G q1⟩, c_LETTERS := ⟨_, PySem.W.mg_of X G q2⟩, c_LONGEST_WORD := ⟨_, PySem.W.mg_of X G q3⟩ }
  exact ⟨T.d_law, fun s v => .of_eq rfl, fun base _ _ => mk T base⟩


end K11
open PySem PySem.W PyProof.Rows
set_option maxHeartbeats 0 in
theorem PySem.Challenge.cw_vouchchains_k11_kinds_known_holds : PySem.Challenge.rw_vouchchains_k11_kinds_known.Holds := by
  w_on; o_law; k_head; (case hw => w_witness2)
  k_fill
  refine Dz.walk_ofG (l := PySem.Challenge.rw_vouchchains_k11_kinds_known) (n := 63) (k := 5) (x := "_law_script") (sp := fun K => Dz.spLaw K) rfl (by decide) rfl ⟨rfl, by decide, by decide⟩ rfl (fun w h Y => PySem.W.kIn_of Y) ?F (fun K H a ns hl _ hS => ⟨a, ns, rfl, hS, hl, fun _ => rfl⟩)
  case F =>
    intro w mg fa h KX G hmg
    refine' K11.all_mk KX G hmg ?a1 ?l1 ?c1 ?k1 ?a2 ?l2 ?c2 ?k2 ?a3 ?l3 ?c3 ?k3 ?a4 ?l4 ?c4 ?k4 ?a5 ?l5 ?c5 ?k5 ?a6 ?l6 ?c6 ?k6 ?a7 ?l7 ?c7 ?k7 ?a8 ?l8 ?c8 ?k8 ?a9 ?l9 ?c9 ?k9 ?a10 ?l10 ?c10 ?k10 ?a11 ?l11 ?c11 ?k11 ?a12 ?l12 ?c12 ?k12 ?a13 ?l13 ?c13 ?k13 ?a14 ?l14 ?c14 ?k14 ?a15 ?l15 ?c15 ?k15 ?a16 ?l16 ?c16 ?k16 ?a17 ?l17 ?c17 ?k17 ?a18 ?l18 ?c18 ?k18 ?a19 ?l19 ?c19 ?k19 ?a20 ?l20 ?c20 ?k20 ?a21 ?l21 ?c21 ?k21 ?a22 ?l22 ?c22 ?k22 ?z0 ?z1 ?z2 ?z3 ?z4 ?z5 ?z6 ?z7 ?z8 ?z9 ?z10 ?q0 ?q1 ?q2 ?q3 ?mk
    case mk => exact fun T base => K11.law_all T
    (case a1 => k_is); (case l1 => k_is); (case c1 => k_is); (case k1 => k_is); (case a2 => k_is); (case l2 => k_is); (case c2 => k_is); (case k2 => k_is); (case a3 => k_is); (case l3 => k_is); (case c3 => k_is); (case k3 => k_is); (case a4 => k_is); (case l4 => k_is); (case c4 => k_is); (case k4 => k_is); (case a5 => k_is); (case l5 => k_is); (case c5 => k_is); (case k5 => k_is); (case a6 => k_is); (case l6 => k_is); (case c6 => k_is); (case k6 => k_is); (case a7 => k_is); (case l7 => k_is); (case c7 => k_is); (case k7 => k_is); (case a8 => k_is); (case l8 => k_is); (case c8 => k_is); (case k8 => k_is); (case a9 => k_is); (case l9 => k_is); (case c9 => k_is); (case k9 => k_is); (case a10 => k_is); (case l10 => k_is); (case c10 => k_is); (case k10 => k_is); (case a11 => k_is); (case l11 => k_is); (case c11 => k_is); (case k11 => k_is); (case a12 => k_is); (case l12 => k_is); (case c12 => k_is); (case k12 => k_is); (case a13 => k_is); (case l13 => k_is); (case c13 => k_is); (case k13 => k_is); (case a14 => k_is); (case l14 => k_is); (case c14 => k_is); (case k14 => k_is); (case a15 => k_is); (case l15 => k_is); (case c15 => k_is); (case k15 => k_is); (case a16 => k_is); (case l16 => k_is); (case c16 => k_is); (case k16 => k_is); (case a17 => k_is); (case l17 => k_is); (case c17 => k_is); (case k17 => k_is); (case a18 => k_is); (case l18 => k_is); (case c18 => k_is); (case k18 => k_is); (case a19 => k_is); (case l19 => k_is); (case c19 => k_is); (case k19 => k_is); (case a20 => k_is); (case l20 => k_is); (case c20 => k_is); (case k20 => k_is); (case a21 => k_is); (case l21 => k_is); (case c21 => k_is); (case k21 => k_is); (case a22 => k_is); (case l22 => k_is); (case c22 => k_is); (case k22 => k_is); (case z0 => k_is); (case z1 => k_is); (case z2 => k_is); (case z3 => k_is); (case z4 => k_is); (case z5 => k_is); (case z6 => k_is); (case z7 => k_is); (case z8 => k_is); (case z9 => k_is); (case z10 => k_is); (case q0 => k_is); (case q1 => k_is); (case q2 => k_is); (case q3 => k_is)

