import PyProof.Rows.All
import Wide.All
import OpenK.AllK
import Wide.FinOn
import HandS.Base
import HandS.Call
import HandS.List
import HandS.Comp
import HandS.Ends
import HandS.Dict
import HandS.Iter
import HandS.Text
import HandS.Flow
import HandS.ForMost
import HandS.IsInst
import HandS.Style
import HandS.Steps
import HandS.TupAny
import HandS.Wide
import HandS.Codes
import PyProof.ReprRoads
import PyProof.StrOps2
import HandS.TupMul
import HandS.More
import HandS.TupSets
import HandS.Property
import HandS.Defaults
import HandS.OwnEq
import PyProof.InstEq
import HandS.Star
import HandS.Zip
import HandS.SetFor
import HandS.Strs
import HandS.FStr
import PySem.Challenge.RW_vouchchains_k23_earliest_beyond_turn
set_option Elab.async false
set_option linter.all false
set_option maxRecDepth 100000
set_option maxHeartbeats 4000000
namespace Dz
open PySem PySem.Spec PyProof.Rows L2

/-! ### places -/
def Bs := Addr → Prop
instance : Membership Addr Bs := ⟨fun B a => B a⟩
def Bs.no : Bs := fun _ => False
def Bs.cons (p : Addr) (B : Bs) : Bs := fun a => a = p ∨ a ∈ B
theorem Bs.mem_cons {p a : Addr} {B : Bs} : a ∈ Bs.cons p B ↔ a = p ∨ a ∈ B := Iff.rfl
theorem Bs.mem_self {p : Addr} {B : Bs} : p ∈ Bs.cons p B := Or.inl rfl
theorem Bs.mem_of {p a : Addr} {B : Bs} (h : a ∈ B) : a ∈ Bs.cons p B := Or.inr h
/-! ### data: what a value is, without addresses -/
inductive D where
  | non | bl (b : Bool) | int (i : Int) | str (x : Str) | tup (xs : List D) | lst (xs : List D) | dic (kvs : List (Key × D))
  | obj (C : Addr) (fs : List (Str × D)) | ty (n : String) | cls (C : Addr) | bag
/-- the written part, the bag's address (where there is one) -/
structure Ga where
  K : PySem.W.Frag
  b : Option (Addr × Addr)
def Ga.c (G : Ga) : Bs := fun a => ∃ p, G.b = some p ∧ (a = p.1 ∨ a = p.2)
def StT (K : PySem.W.Frag) (B : Bs) (H : Hp) (a : Addr) (vs : List V) : Prop := (H a = some (.tup vs) ∧ a ∉ B) ∨ SqT K (fun _ => none) a vs
theorem StT.sq {K : PySem.W.Frag} {B : Bs} {H : Hp} {a : Addr} {vs : List V} (h : StT K B H a vs) : SqT K H a vs := by
  rcases h with ⟨h, _⟩ | h
  · exact .inl (.inl h)
  · rcases h with (h | ⟨_, h⟩) | h
    · cases h
    · cases h
    · exact .inr h
mutual
/-- the value v is the datum d in H; nothing that d rests on stands in B -/
inductive Dt (G : Ga) (B : Bs) (H : Hp) : V → D → Prop
  | non : Dt G B H .non .non
  | bl (b : Bool) : Dt G B H (.bl b) (.bl b)
  | int (i : Int) : Dt G B H (.int i) (.int i)
  | str (x : Str) : Dt G B H (.str x) (.str x)
  | tup {a : Addr} {vs : List V} {ds : List D} : StT G.K B H a vs → Dts G B H vs ds → Dt G B H (.ref a) (.tup ds)
  | lst {a : Addr} {vs : List V} {ds : List D} : H a = some (.lst vs) → a ∉ B → Dts G B H vs ds → Dt G B H (.ref a) (.lst ds)
  | dic {a : Addr} {kvs : List (Key × V)} {ds : List (Key × D)} : H a = some (.dK kvs) → a ∉ B → Dkv G B H kvs ds → Dt G B H (.ref a) (.dic ds)
  | obj {a C dx : Addr} {fs : List (Str × V)} {ds : List (Str × D)} : H a = some (.ins C dx fs) → a ∉ B → Dfs G B H fs ds → Dt G B H (.ref a) (.obj C ds)
  | ty (n : String) : Dt G B H (.ty n) (.ty n)
  | cls (C : Addr) : Dt G B H (.ref C) (.cls C)
  | bag {a c : Addr} : G.b = some (a, c) → Dt G B H (.ref a) .bag
inductive Dts (G : Ga) (B : Bs) (H : Hp) : List V → List D → Prop
  | nil : Dts G B H [] []
  | cons {v : V} {vs : List V} {d : D} {ds : List D} : Dt G B H v d → Dts G B H vs ds → Dts G B H (v :: vs) (d :: ds)
inductive Dkv (G : Ga) (B : Bs) (H : Hp) : List (Key × V) → List (Key × D) → Prop
  | nil : Dkv G B H [] []
  | cons {k : Key} {v : V} {vs : List (Key × V)} {d : D} {ds : List (Key × D)} : Dt G B H v d → Dkv G B H vs ds → Dkv G B H ((k, v) :: vs) ((k, d) :: ds)
inductive Dfs (G : Ga) (B : Bs) (H : Hp) : List (Str × V) → List (Str × D) → Prop
  | nil : Dfs G B H [] []
  | cons {k : Str} {v : V} {vs : List (Str × V)} {d : D} {ds : List (Str × D)} : Dt G B H v d → Dfs G B H vs ds → Dfs G B H ((k, v) :: vs) ((k, d) :: ds)
end
section
variable {G : Ga} {B B' : Bs} {H H' : Hp}
mutual
theorem Dt.to (k : ∀ a o, a ∉ B → H a = some o → a ∉ B' ∧ H' a = some o) : ∀ {v : V} {d : D}, Dt G B H v d → Dt G B' H' v d
  | _, _, .non => .non
  | _, _, .bl b => .bl b
  | _, _, .int i => .int i
  | _, _, .str x => .str x
  | _, _, .tup h hs => by
    refine .tup ?_ (Dts.to k hs)
    rcases h with ⟨h, hn⟩ | h
    · exact .inl ⟨(k _ _ hn h).2, (k _ _ hn h).1⟩
    · exact .inr h
  | _, _, .lst h hn hs => .lst (k _ _ hn h).2 (k _ _ hn h).1 (Dts.to k hs)
  | _, _, .dic h hn hs => .dic (k _ _ hn h).2 (k _ _ hn h).1 (Dkv.to k hs)
  | _, _, .obj h hn hs => .obj (k _ _ hn h).2 (k _ _ hn h).1 (Dfs.to k hs)
  | _, _, .ty n => .ty n
  | _, _, .cls C => .cls C
  | _, _, .bag h => .bag h
theorem Dts.to (k : ∀ a o, a ∉ B → H a = some o → a ∉ B' ∧ H' a = some o) : ∀ {v : List V} {d : List D}, Dts G B H v d → Dts G B' H' v d
  | _, _, .nil => .nil
  | _, _, .cons h hs => .cons (Dt.to k h) (Dts.to k hs)
theorem Dkv.to (k : ∀ a o, a ∉ B → H a = some o → a ∉ B' ∧ H' a = some o) : ∀ {v : List (Key × V)} {d : List (Key × D)}, Dkv G B H v d → Dkv G B' H' v d
  | _, _, .nil => .nil
  | _, _, .cons h hs => .cons (Dt.to k h) (Dkv.to k hs)
theorem Dfs.to (k : ∀ a o, a ∉ B → H a = some o → a ∉ B' ∧ H' a = some o) : ∀ {v : List (Str × V)} {d : List (Str × D)}, Dfs G B H v d → Dfs G B' H' v d
  | _, _, .nil => .nil
  | _, _, .cons h hs => .cons (Dt.to k h) (Dfs.to k hs)
end
theorem Dts.length : ∀ {vs : List V} {ds : List D}, Dts G B H vs ds → vs.length = ds.length
  | _, _, .nil => rfl
  | _, _, .cons _ h => by rw [List.length_cons, List.length_cons, Dts.length h]
theorem Dts.get : ∀ {vs : List V} {ds : List D} {i : Nat} {d : D}, Dts G B H vs ds → ds[i]? = some d → ∃ v, vs[i]? = some v ∧ Dt G B H v d
  | _, _, _, _, .nil, e => by simp at e
  | _, _, 0, _, .cons h _, e => by simp at e; subst e; exact ⟨_, rfl, h⟩
  | _, _, i + 1, _, .cons _ h, e => by
    obtain ⟨v, e1, e2⟩ := Dts.get (i := i) h (by simpa using e)
    exact ⟨v, by simpa using e1, e2⟩
theorem Dts.getV : ∀ {vs : List V} {ds : List D} {i : Nat} {v : V}, Dts G B H vs ds → vs[i]? = some v → ∃ d, ds[i]? = some d ∧ Dt G B H v d
  | _, _, _, _, .nil, e => by simp at e
  | _, _, 0, _, .cons h _, e => by simp at e; subst e; exact ⟨_, rfl, h⟩
  | _, _, i + 1, _, .cons _ h, e => by
    obtain ⟨v, e1, e2⟩ := Dts.getV (i := i) h (by simpa using e)
    exact ⟨v, by simpa using e1, e2⟩
theorem Dts.append : ∀ {vs ws : List V} {ds es : List D}, Dts G B H vs ds → Dts G B H ws es → Dts G B H (vs ++ ws) (ds ++ es)
  | _, _, _, _, .nil, h => h
  | _, _, _, _, .cons a t, h => .cons a (Dts.append t h)
theorem Dts.take : ∀ {vs : List V} {ds : List D} (n : Nat), Dts G B H vs ds → Dts G B H (vs.take n) (ds.take n)
  | _, _, 0, _ => .nil
  | _, _, _ + 1, .nil => .nil
  | _, _, n + 1, .cons a t => .cons a (Dts.take n t)
theorem Dts.drop : ∀ {vs : List V} {ds : List D} (n : Nat), Dts G B H vs ds → Dts G B H (vs.drop n) (ds.drop n)
  | _, _, 0, h => h
  | _, _, _ + 1, .nil => .nil
  | _, _, n + 1, .cons _ t => Dts.drop n t
theorem Dts.ints : ∀ {vs : List V} {ns : List Int}, Dts G B H vs (ns.map D.int) → vs = ns.map V.int
  | [], [], _ => rfl
  | _ :: _, [], h => by cases h
  | [], _ :: _, h => by cases h
  | v :: vs, n :: ns, h => by
    cases h with
    | cons a t => cases a; rw [Dts.ints t]; rfl
theorem Dts.strs : ∀ {vs : List V} {ns : List Str}, Dts G B H vs (ns.map D.str) → vs = ns.map V.str
  | [], [], _ => rfl
  | _ :: _, [], h => by cases h
  | [], _ :: _, h => by cases h
  | v :: vs, n :: ns, h => by
    cases h with
    | cons a t => cases a; rw [Dts.strs t]; rfl
theorem Dts.bls : ∀ {vs : List V} {ns : List Bool}, Dts G B H vs (ns.map D.bl) → vs = ns.map V.bl
  | [], [], _ => rfl
  | _ :: _, [], h => by cases h
  | [], _ :: _, h => by cases h
  | v :: vs, n :: ns, h => by
    cases h with
    | cons a t => cases a; rw [Dts.bls t]; rfl
theorem Dts.ofInts : ∀ (ns : List Int), Dts G B H (ns.map V.int) (ns.map D.int)
  | [] => .nil
  | n :: ns => .cons (.int n) (Dts.ofInts ns)
theorem Dts.ofStrs : ∀ (ns : List Str), Dts G B H (ns.map V.str) (ns.map D.str)
  | [] => .nil
  | n :: ns => .cons (.str n) (Dts.ofStrs ns)
theorem Dts.rep {vs : List V} {ds : List D} (h : Dts G B H vs ds) : ∀ n, Dts G B H (List.replicate n vs).flatten (List.replicate n ds).flatten
  | 0 => .nil
  | n + 1 => by rw [List.replicate_succ, List.replicate_succ, List.flatten_cons, List.flatten_cons]; exact h.append (Dts.rep h n)
end

/-! ### how heaps go on -/
def Bx (C : Bs) (H H' : Hp) : Prop := ∀ a o, a ∉ C → H a = some o → H' a = some o
theorem Bx.refl (C : Bs) (H : Hp) : Bx C H H := fun _ _ _ h => h
theorem Bx.trans {C : Bs} {H H1 H2 : Hp} (a : Bx C H H1) (b : Bx C H1 H2) : Bx C H H2 := fun x o n h => b x o n (a x o n h)
theorem Bx.new {C : Bs} {H : Hp} {p : Addr} {o : HO} (h : H p = none) : Bx C H (upd H p o) := fun a u _ e => by
  rw [upd_ne (ne_of_none e h)]; exact e
theorem Bx.sub {C C' : Bs} {H H' : Hp} (h : Bx C H H') (s : ∀ a ∈ C, a ∈ C') : Bx C' H H' := fun a o n e => h a o (fun z => n (s a z)) e
def Bag (H : Hp) (b c : Addr) : Prop := ∃ (z t n : Int) (cells : List Int), H b = some (.lst [.int z, .int t, .int n, .ref c]) ∧ H c = some (.lst (cells.map V.int)) ∧ c ≠ b ∧ 0 ≤ z ∧ 0 ≤ t ∧ 0 ≤ n ∧ ∀ x ∈ cells, 0 ≤ x
structure Ok (G : Ga) (B : Bs) (H : Hp) : Prop where
  al : ∀ a ∈ B, H a ≠ none
  bg : ∀ b c, G.b = some (b, c) → b ∈ B ∧ c ∈ B ∧ Bag H b c
section
variable {G : Ga} {B B' : Bs} {H H' : Hp}
theorem Ok.sub (h : Ok G B H) : ∀ a ∈ G.c, a ∈ B := fun a ha => by
  obtain ⟨⟨b, c⟩, e, ha⟩ := ha
  obtain ⟨h1, h2, _⟩ := h.bg b c e
  rcases ha with rfl | rfl
  · exact h1
  · exact h2
theorem Ok.fresh (h : Ok G B H) {p : Addr} (hp : H p = none) : p ∉ B := fun z => h.al p z hp
/-- a new object -/
theorem Ok.new (h : Ok G B H) {p : Addr} {o : HO} (hp : H p = none) : Ok G B (upd H p o) := by
  refine ⟨fun a ha => ?_, fun b c e => ?_⟩
  · have : a ≠ p := fun z => h.al a ha (z ▸ hp)
    rw [upd_ne this]; exact h.al a ha
  · obtain ⟨hb, hc, z, t, n, cells, h1, h2, r⟩ := h.bg b c e
    exact ⟨hb, hc, z, t, n, cells, by rw [upd_ne (ne_of_none h1 hp)]; exact h1, by rw [upd_ne (ne_of_none h2 hp)]; exact h2, r⟩
theorem Dt.bx {v : V} {d : D} (h : Dt G B H v d) (k : Bx B H H') : Dt G B H' v d := h.to fun a o n e => ⟨n, k a o n e⟩
theorem Dts.bx {v : List V} {d : List D} (h : Dts G B H v d) (k : Bx B H H') : Dts G B H' v d := h.to fun a o n e => ⟨n, k a o n e⟩
theorem Dt.less {v : V} {d : D} (h : Dt G B H v d) (k : ∀ a ∈ B', a ∈ B) : Dt G B' H v d := h.to fun a o n e => ⟨fun z => n (k a z), e⟩
theorem Dts.less {v : List V} {d : List D} (h : Dts G B H v d) (k : ∀ a ∈ B', a ∈ B) : Dts G B' H v d := h.to fun a o n e => ⟨fun z => n (k a z), e⟩
/-- a fresh place more among those that may change -/
theorem Dt.more {v : V} {d : D} {p : Addr} {o : HO} (h : Dt G B H v d) (hp : H p = none) : Dt G (.cons p B) (upd H p o) v d := h.to fun a u n e => by
  have : a ≠ p := ne_of_none e hp
  exact ⟨fun z => (Bs.mem_cons.mp z).elim this n, by rw [upd_ne this]; exact e⟩
theorem Dts.more {v : List V} {d : List D} {p : Addr} {o : HO} (h : Dts G B H v d) (hp : H p = none) : Dts G (.cons p B) (upd H p o) v d := h.to fun a u n e => by
  have : a ≠ p := ne_of_none e hp
  exact ⟨fun z => (Bs.mem_cons.mp z).elim this n, by rw [upd_ne this]; exact e⟩
theorem Ok.more (h : Ok G B H) {p : Addr} {o : HO} (hp : H p = none) : Ok G (.cons p B) (upd H p o) := by
  refine ⟨fun a ha => ?_, fun b c e => ?_⟩
  · by_cases z : a = p
    · subst z; rw [upd_same]; simp
    · rw [upd_ne z]; exact h.al a ((Bs.mem_cons.mp ha).resolve_left z)
  · obtain ⟨hb, hc, z, t, n, cells, h1, h2, r⟩ := h.bg b c e
    exact ⟨.inr hb, .inr hc, z, t, n, cells, by rw [upd_ne (ne_of_none h1 hp)]; exact h1, by rw [upd_ne (ne_of_none h2 hp)]; exact h2, r⟩
/-- what is ours is written -/
theorem Ok.put (h : Ok G B H) {p : Addr} {o : HO} (hg : p ∉ G.c) : Ok G B (upd H p o) := by
  refine ⟨fun a ha => ?_, fun b c e => ?_⟩
  · by_cases z : a = p
    · subst z; rw [upd_same]; simp
    · rw [upd_ne z]; exact h.al a ha
  · obtain ⟨hb, hc, z, t, n, cells, h1, h2, r⟩ := h.bg b c e
    have e1 : b ≠ p := fun z => hg ⟨(b, c), e, .inl z.symm⟩
    have e2 : c ≠ p := fun z => hg ⟨(b, c), e, .inr z.symm⟩
    exact ⟨hb, hc, z, t, n, cells, by rw [upd_ne e1]; exact h1, by rw [upd_ne e2]; exact h2, r⟩
theorem Bx.put {p : Addr} {o : HO} (hp : p ∈ B) : Bx B H (upd H p o) := fun a u n e => by
  rw [upd_ne (fun z => n (by rw [z]; exact hp))]; exact e
theorem Ok.drop {p : Addr} (h : Ok G (.cons p B) H) (hg : p ∉ G.c) : Ok G B H := ⟨fun a ha => h.al a (.inr ha), fun b c e => by
  obtain ⟨hb, hc, r⟩ := h.bg b c e
  exact ⟨(Bs.mem_cons.mp hb).resolve_left fun z => hg ⟨(b, c), e, .inl z.symm⟩, (Bs.mem_cons.mp hc).resolve_left fun z => hg ⟨(b, c), e, .inr z.symm⟩, r⟩⟩
theorem Ok.less {B' : Bs} (h : Ok G B H) (h0 : ∀ a ∈ B', a ∈ B) (hb : ∀ a ∈ G.c, a ∈ B') : Ok G B' H := ⟨fun a ha => h.al a (h0 a ha), fun b c e => by
  obtain ⟨_, _, r⟩ := h.bg b c e
  exact ⟨hb b ⟨(b, c), e, .inl rfl⟩, hb c ⟨(b, c), e, .inr rfl⟩, r⟩⟩
theorem Dfs.bx {v : List (Str × V)} {d : List (Str × D)} (h : Dfs G B H v d) (k : Bx B H H') : Dfs G B H' v d := h.to fun a o n e => ⟨n, k a o n e⟩
theorem Dfs.less {v : List (Str × V)} {d : List (Str × D)} (h : Dfs G B H v d) (k : ∀ a ∈ B', a ∈ B) : Dfs G B' H v d := h.to fun a o n e => ⟨fun z => n (k a z), e⟩
theorem Dfs.more {v : List (Str × V)} {d : List (Str × D)} {p : Addr} {o : HO} (h : Dfs G B H v d) (hp : H p = none) : Dfs G (.cons p B) (upd H p o) v d := h.to fun a u n e => by
  have : a ≠ p := ne_of_none e hp
  exact ⟨fun z => (Bs.mem_cons.mp z).elim this n, by rw [upd_ne this]; exact e⟩
end

/-! ### slots -/
inductive Slot where
  | no | val (d : D) | own (ds : List D) | slf (a C : Addr) (fs : List (Str × D))
abbrev Rho := List Slot
structure Sta (G : Ga) (B : Bs) (H : Hp) (σ : L2.St) (ρ : Rho) : Prop where
  ok : Ok G B H
  len : ρ.length = σ.length
  val : ∀ (i : Nat) (d : D), ρ[i]? = some (Slot.val d) → ∃ v, σ[i]? = some (some v) ∧ Dt G B H v d
  own : ∀ (i : Nat) (ds : List D), ρ[i]? = some (Slot.own ds) → ∃ a vs, σ[i]? = some (some (V.ref a)) ∧ H a = some (.lst vs) ∧ a ∈ B ∧ a ∉ G.c ∧ Dts G B H vs ds
  inj : ∀ (i j : Nat) (ds es : List D) (a : Addr), ρ[i]? = some (Slot.own ds) → ρ[j]? = some (Slot.own es) → σ[i]? = some (some (V.ref a)) → σ[j]? = some (some (V.ref a)) → i = j
  slf : ∀ (a C : Addr) (ds : List (Str × D)), ρ[0]? = some (Slot.slf a C ds) → ∃ dx fs, σ[0]? = some (some (V.ref a)) ∧ H a = some (.ins C dx fs) ∧ a ∈ B ∧ a ∉ G.c ∧ Dfs G B H fs ds
section
variable {G : Ga} {B B' : Bs} {H H' : Hp} {σ : L2.St} {ρ : Rho}
theorem Sta.bx (h : Sta G B H σ ρ) (k : Bx G.c H H') (ok : Ok G B H') : Sta G B H' σ ρ := by
  have k' : Bx B H H' := k.sub h.ok.sub
  refine ⟨ok, h.len, fun i d e => ?_, fun i ds e => ?_, h.inj, fun a C ds e => ?_⟩
  · obtain ⟨v, e1, e2⟩ := h.val i d e
    exact ⟨v, e1, e2.bx k'⟩
  · obtain ⟨a, vs, e1, e2, e3, e4, e5⟩ := h.own i ds e
    exact ⟨a, vs, e1, k a _ e4 e2, e3, e4, e5.bx k'⟩
  · obtain ⟨dx, fs, e1, e2, e3, e4, e5⟩ := h.slf a C ds e
    exact ⟨dx, fs, e1, k a _ e4 e2, e3, e4, e5.bx k'⟩
theorem Sta.more (h : Sta G B H σ ρ) {p : Addr} {o : HO} (hp : H p = none) : Sta G (.cons p B) (upd H p o) σ ρ := by
  refine ⟨h.ok.more hp, h.len, fun i d e => ?_, fun i ds e => ?_, h.inj, fun a C ds e => ?_⟩
  · obtain ⟨v, e1, e2⟩ := h.val i d e
    exact ⟨v, e1, e2.more hp⟩
  · obtain ⟨a, vs, e1, e2, e3, e4, e5⟩ := h.own i ds e
    exact ⟨a, vs, e1, by rw [upd_ne (ne_of_none e2 hp)]; exact e2, .inr e3, e4, e5.more hp⟩
  · obtain ⟨dx, fs, e1, e2, e3, e4, e5⟩ := h.slf a C ds e
    exact ⟨dx, fs, e1, by rw [upd_ne (ne_of_none e2 hp)]; exact e2, .inr e3, e4, e5.more hp⟩
/-- the slot 0, where another one is written -/
theorem slf_set {ρ : Rho} {i : Nat} {x : Slot} {a C : Addr} {ds : List (Str × D)} (hx : ∀ a C ds, x ≠ .slf a C ds) (h : (ρ.set i x)[0]? = some (Slot.slf a C ds)) : i ≠ 0 ∧ ρ[0]? = some (Slot.slf a C ds) := by
  rw [List.getElem?_set] at h
  split at h
  · split at h
    · cases h; exact absurd rfl (hx a C ds)
    · cases h
  · rename_i z; exact ⟨z, h⟩
theorem Sta.set (h : Sta G B H σ ρ) {i : Nat} {v : V} {d : D} (hd : Dt G B H v d) : Sta G B H (σ.set i (some v)) (ρ.set i (.val d)) := by
  refine ⟨h.ok, by simp [h.len], fun j e he => ?_, fun j es he => ?_, fun j l ds es a e1 e2 e3 e4 => ?_, fun a C ds e => ?_⟩
  · rw [List.getElem?_set] at he ⊢
    split at he
    · rename_i z
      subst z
      split at he
      · rename_i hl
        cases he
        rw [if_pos rfl, if_pos (by rw [← h.len]; exact hl)]
        exact ⟨v, rfl, hd⟩
      · cases he
    · rename_i z
      rw [if_neg z]
      exact h.val j e he
  · rw [List.getElem?_set] at he ⊢
    split at he
    · split at he <;> cases he
    · rename_i z
      rw [if_neg z]
      exact h.own j es he
  · have a1 : i ≠ j := fun z => by
      subst z
      rw [List.getElem?_set] at e1
      rw [if_pos rfl] at e1
      split at e1 <;> cases e1
    have a2 : i ≠ l := fun z => by
      subst z
      rw [List.getElem?_set] at e2
      rw [if_pos rfl] at e2
      split at e2 <;> cases e2
    rw [List.getElem?_set_ne a1] at e1 e3
    rw [List.getElem?_set_ne a2] at e2 e4
    exact h.inj j l ds es a e1 e2 e3 e4
  · obtain ⟨n, e⟩ := slf_set (fun _ _ _ z => by cases z) e
    rw [List.getElem?_set_ne n]
    exact h.slf a C ds e
/-- a slot that is forgotten -/
theorem Sta.forget (h : Sta G B H σ ρ) {i : Nat} {x : Option V} : Sta G B H (σ.set i x) (ρ.set i .no) := by
  refine ⟨h.ok, by simp [h.len], fun j e he => ?_, fun j es he => ?_, fun j l ds es a e1 e2 e3 e4 => ?_, fun a C ds e => ?_⟩
  · rw [List.getElem?_set] at he ⊢
    split at he
    · split at he <;> cases he
    · rename_i z; rw [if_neg z]; exact h.val j e he
  · rw [List.getElem?_set] at he ⊢
    split at he
    · split at he <;> cases he
    · rename_i z; rw [if_neg z]; exact h.own j es he
  · have a1 : i ≠ j := fun z => by
      subst z; rw [List.getElem?_set, if_pos rfl] at e1; split at e1 <;> cases e1
    have a2 : i ≠ l := fun z => by
      subst z; rw [List.getElem?_set, if_pos rfl] at e2; split at e2 <;> cases e2
    rw [List.getElem?_set_ne a1] at e1 e3
    rw [List.getElem?_set_ne a2] at e2 e4
    exact h.inj j l ds es a e1 e2 e3 e4
  · obtain ⟨n, e⟩ := slf_set (fun _ _ _ z => by cases z) e
    rw [List.getElem?_set_ne n]
    exact h.slf a C ds e
def wipeR (ρ : Rho) : List Nat → Rho
  | [] => ρ
  | v :: vs => (wipeR ρ vs).set v .no
theorem Sta.wipe (h : Sta G B H σ ρ) : ∀ vs : List Nat, Sta G B H (wipe σ vs) (wipeR ρ vs)
  | [] => h
  | v :: vs => (Sta.wipe h vs).forget
end
end Dz

namespace Dz
open PySem PySem.Spec PyProof.Rows L2

theorem Ok.ex {G : Ga} {B : Bs} {H H' : Hp} (h : Ok G B H) (k : Bx .no H H') : Ok G B H' := by
  have k' : ∀ a o, H a = some o → H' a = some o := fun a o e => k a o (fun z => z) e
  refine ⟨fun a ha => ?_, fun b c e => ?_⟩
  · cases q : H a with
    | none => exact absurd q (h.al a ha)
    | some o => rw [k' a o q]; simp
  · obtain ⟨hb, hc, z, t, n, cells, h1, h2, r⟩ := h.bg b c e
    exact ⟨hb, hc, z, t, n, cells, k' _ _ h1, k' _ _ h2, r⟩
theorem Bx.nil {C : Bs} {H H' : Hp} (h : Bx .no H H') : Bx C H H' := h.sub (fun _ z => z.elim)
def Tr (B : Bs) (H : Hp) (B' : Bs) (H' : Hp) : Prop := ∀ a o, a ∉ B → H a = some o → a ∉ B' ∧ H' a = some o
theorem Tr.bx {B : Bs} {H H1 B' H'} (h : Tr B H1 B' H') (k : Bx B H H1) : Tr B H B' H' := fun a o n e => h a o n (k a o n e)

/-! ### what evaluates to what -/
abbrev MD := (D → Prop) → Prop
abbrev ME := Rho → MD
abbrev MT := Rho → (Bool → Prop) → Prop
abbrev MA := Rho → (List D → Prop) → Prop
def EvD (G : Ga) (te : TE) (m : ME) : Prop := ∀ (B : Bs) (H : Hp) (σ : L2.St) (ρ : Rho), Sta G B H σ ρ → ∀ (Qd : D → Prop) (Q : VK),
  (∀ d v H2, Qd d → Bx G.c H H2 → Ok G B H2 → Dt G B H2 v d → Q v H2) → m ρ Qd → te σ H Q
def EvT (G : Ga) (tt : TT) (m : MT) : Prop := ∀ (B : Bs) (H : Hp) (σ : L2.St) (ρ : Rho), Sta G B H σ ρ → ∀ (Qd : Bool → Prop) (Q : Bool → Hp → Prop),
  (∀ d H2, Qd d → Bx G.c H H2 → Ok G B H2 → Q d H2) → m ρ Qd → tt σ H Q
def EvA (G : Ga) (ta : TA) (m : MA) : Prop := ∀ (B : Bs) (H : Hp) (σ : L2.St) (ρ : Rho), Sta G B H σ ρ → ∀ (Qd : List D → Prop) (Q : List V → Hp → Prop),
  (∀ d v H2, Qd d → Bx G.c H H2 → Ok G B H2 → Dts G B H2 v d → Q v H2) → m ρ Qd → ta σ H Q
/-- an operation on data -/
def OpD (G : Ga) (r : R2) (f : D → D → MD) : Prop := ∀ (B : Bs) (H : Hp) (x y : V) (dx dy : D), Ok G B H → Dt G B H x dx → Dt G B H y dy → ∀ (Qd : D → Prop) (Q : VK),
  (∀ d v H2, Qd d → Bx .no H H2 → Dt G B H2 v d → Q v H2) → f dx dy Qd → r x y H Q
def UnD (G : Ga) (r : V → Hp → VK → Prop) (f : D → MD) : Prop := ∀ (B : Bs) (H : Hp) (x : V) (dx : D), Ok G B H → Dt G B H x dx → ∀ (Qd : D → Prop) (Q : VK),
  (∀ d v H2, Qd d → Bx .no H H2 → Dt G B H2 v d → Q v H2) → f dx Qd → r x H Q
def CallD (G : Ga) (r : List V → Hp → VK → Prop) (f : List D → MD) : Prop := ∀ (B : Bs) (H : Hp) (x : List V) (dx : List D), Ok G B H → Dts G B H x dx → ∀ (Qd : D → Prop) (Q : VK),
  (∀ d v H2, Qd d → Bx .no H H2 → Dt G B H2 v d → Q v H2) → f dx Qd → r x H Q
def SlD (G : Ga) (r : V → Option Int → Option Int → Hp → VK → Prop) (f : D → Option Int → Option Int → MD) : Prop := ∀ (B : Bs) (H : Hp) (x : V) (dx : D) (lo hi : Option Int), Ok G B H → Dt G B H x dx → ∀ (Qd : D → Prop) (Q : VK),
  (∀ d v H2, Qd d → Bx .no H H2 → Dt G B H2 v d → Q v H2) → f dx lo hi Qd → r x lo hi H Q

/-! ### the mirrors -/
def mVar (i : Nat) : ME := fun ρ Q => match ρ[i]? with
  | some (.val d) => Q d
  | _ => False
def mC (d : D) : ME := fun _ Q => Q d
def mBin (f : D → D → MD) (ma mb : ME) : ME := fun ρ Q => ma ρ fun x => mb ρ fun y => f x y Q
def mUn (f : D → MD) (ma : ME) : ME := fun ρ Q => ma ρ fun x => f x Q
def asBl (d : D) (Q : Bool → Prop) : Prop := match d with
  | .bl b => Q b
  | _ => False
def mTest (m : ME) : MT := fun ρ Q => m ρ fun d => asBl d Q
def tru (d : D) (Q : Bool → Prop) : Prop := match d with
  | .non => Q false
  | .bl b => Q b
  | .int i => Q (i != 0)
  | .str x => x.length ≤ sizeLine ∧ Q ((x.length : Int) != 0)
  | .lst xs => Q (!xs.isEmpty)
  | .tup xs => Q (!xs.isEmpty)
  | .dic xs => Q (!xs.isEmpty)
  | _ => False
def mTru (m : ME) : MT := fun ρ Q => m ρ fun d => tru d Q
def mAnd (s t : MT) : MT := fun ρ Q => s ρ fun b => if b = true then t ρ Q else Q false
def mOr (s t : MT) : MT := fun ρ Q => s ρ fun b => if b = true then Q true else t ρ Q
def mNot (s : MT) : MT := fun ρ Q => s ρ fun b => Q (!b)
def mAndV (s t : ME) : ME := fun ρ Q => s ρ fun d => asBl d fun b => if b = true then t ρ Q else Q (.bl false)
def mOrV (s t : ME) : ME := fun ρ Q => s ρ fun d => asBl d fun b => if b = true then Q (.bl true) else t ρ Q
def mNotV (s : ME) : ME := fun ρ Q => s ρ fun d => asBl d fun b => Q (.bl (!b))
def mOrT (s t : ME) : ME := fun ρ Q => s ρ fun d => tru d fun b => if b = true then Q d else t ρ Q
def mAndT (s t : ME) : ME := fun ρ Q => s ρ fun d => tru d fun b => if b = true then t ρ Q else Q d
def mIf (c : MT) (s t : ME) : ME := fun ρ Q => c ρ fun b => if b = true then s ρ Q else t ρ Q
def mNil : MA := fun _ Q => Q []
def mCons (s : ME) (t : MA) : MA := fun ρ Q => s ρ fun d => t ρ fun ds => Q (d :: ds)
def mTup (m : MA) : ME := fun ρ Q => m ρ fun ds => ds.length ≤ sizeLine ∧ Q (.tup ds)
def mLst (m : MA) : ME := fun ρ Q => m ρ fun ds => ds.length ≤ sizeLine ∧ Q (.lst ds)
def mCall (f : List D → MD) (m : MA) : ME := fun ρ Q => m ρ fun ds => f ds Q
def mFn (n : Nat) (f : List D → MD) (es : List D) (m : MA) : ME := fun ρ Q => m ρ fun ds => (ds ++ es).length = n ∧ f (ds ++ es) Q
def mChain (f g : D → D → MD) (ma mb mc : ME) : ME := fun ρ Q => ma ρ fun x => mb ρ fun y => f x y fun z => asBl z fun k => if k = true then mc ρ fun w => g y w Q else Q (.bl false)

section
variable {G : Ga} {ta tb tc : TE} {ma mb mc : ME} {r r' : R2} {f g : D → D → MD} {tA : TA} {mA : MA} {t u : TT} {s s' : MT}
theorem evd_var {i : Nat} : EvD G (tVar i) (mVar i) := by
  intro B H σ ρ hS Qd Q hQ hm
  unfold mVar at hm
  split at hm
  · rename_i d e
    obtain ⟨v, e1, e2⟩ := hS.val i d e
    exact ⟨v, e1, hQ d v H hm (Bx.refl _ _) hS.ok e2⟩
  · exact hm.elim
theorem evd_c {v : V} {d : D} (h : ∀ B H, Dt G B H v d) : EvD G (tC v) (mC d) := fun B H σ ρ hS Qd Q hQ hm => hQ d v H hm (Bx.refl _ _) hS.ok (h B H)
theorem evd_int {i : Int} : EvD G (tC (.int i)) (mC (.int i)) := evd_c fun _ _ => .int i
theorem evd_bl {i : Bool} : EvD G (tC (.bl i)) (mC (.bl i)) := evd_c fun _ _ => .bl i
theorem evd_str {i : Str} : EvD G (tC (.str i)) (mC (.str i)) := evd_c fun _ _ => .str i
theorem evd_non : EvD G (tC .non) (mC .non) := evd_c fun _ _ => .non
theorem evd_ty {n : String} : EvD G (tC (.ty n)) (mC (.ty n)) := evd_c fun _ _ => .ty n
theorem evd_cls {C : Addr} : EvD G (tC (.ref C)) (mC (.cls C)) := evd_c fun _ _ => .cls C
theorem evd_op (ho : OpD G r f) (ha : EvD G ta ma) (hb : EvD G tb mb) : EvD G (tOp r ta tb) (mBin f ma mb) := by
  intro B H σ ρ hS Qd Q hQ hm
  refine ha B H σ ρ hS (fun dx => mb ρ fun dy => f dx dy Qd) _ (fun dx x H1 hq b1 ok1 hx => ?_) hm
  refine hb B H1 σ ρ (hS.bx b1 ok1) (fun dy => f dx dy Qd) _ (fun dy y H2 hq2 b2 ok2 hy => ?_) hq
  exact ho B H2 x y dx dy ok2 (hx.bx (b2.sub ok1.sub)) hy Qd Q (fun d v H3 q e3 hd => hQ d v H3 q ((b1.trans b2).trans e3.nil) (ok2.ex e3) hd) hq2
theorem evd_un {r : V → Hp → VK → Prop} {f : D → MD} (ho : UnD G r f) (ha : EvD G ta ma) : EvD G (tUn r ta) (mUn f ma) := by
  intro B H σ ρ hS Qd Q hQ hm
  refine ha B H σ ρ hS (fun dx => f dx Qd) _ (fun dx x H1 hq b1 ok1 hx => ?_) hm
  exact ho B H1 x dx ok1 hx Qd Q (fun d v H3 q e3 hd => hQ d v H3 q (b1.trans e3.nil) (ok1.ex e3) hd) hq
theorem asBl_inv {v : V} {d : D} {B H} {Qd : Bool → Prop} (h : Dt G B H v d) (q : asBl d Qd) : ∃ b, v = .bl b ∧ d = .bl b ∧ Qd b := by
  cases h with
  | bl b => exact ⟨b, rfl, rfl, q⟩
  | _ => exact (show False from q).elim
theorem evt_test (h : EvD G ta ma) : EvT G (tTest ta) (mTest ma) := by
  intro B H σ ρ hS Qd Q hQ hm
  refine h B H σ ρ hS (fun d => asBl d Qd) _ (fun d v H2 q b1 ok1 hd => ?_) hm
  obtain ⟨b, rfl, rfl, q⟩ := asBl_inv hd q
  exact ⟨b, rfl, hQ b H2 q b1 ok1⟩
theorem evt_tB (h : EvD G ta ma) : EvT G (tB ta) (mTest ma) := by
  intro B H σ ρ hS Qd Q hQ hm
  refine h B H σ ρ hS (fun d => asBl d Qd) _ (fun d v H2 q b1 ok1 hd => ?_) hm
  obtain ⟨b, rfl, rfl, q⟩ := asBl_inv hd q
  exact ⟨b, rfl, hQ b H2 q b1 ok1⟩
theorem Dkv.isEmpty {B H} : ∀ {a : List (Key × V)} {b : List (Key × D)}, Dkv G B H a b → a.isEmpty = b.isEmpty
  | _, _, .nil => rfl
  | _, _, .cons _ _ => rfl
theorem Dts.isEmpty {B H} : ∀ {a : List V} {b : List D}, Dts G B H a b → a.isEmpty = b.isEmpty
  | _, _, .nil => rfl
  | _, _, .cons _ _ => rfl
theorem tru_inv {v : V} {d : D} {B H} {Qd : Bool → Prop} (h : Dt G B H v d) (q : tru d Qd) : ∃ b, TruV G.K v H b ∧ Qd b := by
  cases h with
  | non => exact ⟨false, rfl, q⟩
  | bl b => exact ⟨b, rfl, q⟩
  | int i => exact ⟨_, rfl, q⟩
  | str x => exact ⟨_, ⟨q.1, rfl⟩, q.2⟩
  | tup h1 h2 => exact ⟨_, .inr (.inl ⟨_, h1.sq, by rw [h2.isEmpty]⟩), q⟩
  | lst h1 _ h2 => exact ⟨_, .inl ⟨_, .inl (.inl h1), by rw [h2.isEmpty]⟩, q⟩
  | dic h1 _ h2 => exact ⟨_, .inr (.inr ⟨_, h1, by rw [h2.isEmpty]⟩), q⟩
  | _ => exact (show False from q).elim
theorem evt_truth (h : EvD G ta ma) : EvT G (fun σ H Q => ta σ H fun x H' => ∃ k, TruV G.K x H' k ∧ Q k H') (mTru ma) := by
  intro B H σ ρ hS Qd Q hQ hm
  refine h B H σ ρ hS (fun d => tru d Qd) _ (fun d v H2 q b1 ok1 hd => ?_) hm
  obtain ⟨b, hb, q⟩ := tru_inv hd q
  exact ⟨b, hb, hQ b H2 q b1 ok1⟩
theorem evt_and (h1 : EvT G t s) (h2 : EvT G u s') : EvT G (tAnd t u) (mAnd s s') := by
  intro B H σ ρ hS Qd Q hQ hm
  refine h1 B H σ ρ hS (fun b => if b = true then s' ρ Qd else Qd false) _ (fun b H1 q b1 ok1 => ?_) hm
  cases b with
  | true => exact h2 B H1 σ ρ (hS.bx b1 ok1) Qd Q (fun d H2 q b2 ok2 => hQ d H2 q (b1.trans b2) ok2) q
  | false => exact hQ false H1 q b1 ok1
theorem evt_or (h1 : EvT G t s) (h2 : EvT G u s') : EvT G (tOr t u) (mOr s s') := by
  intro B H σ ρ hS Qd Q hQ hm
  refine h1 B H σ ρ hS (fun b => if b = true then Qd true else s' ρ Qd) _ (fun b H1 q b1 ok1 => ?_) hm
  cases b with
  | false => exact h2 B H1 σ ρ (hS.bx b1 ok1) Qd Q (fun d H2 q b2 ok2 => hQ d H2 q (b1.trans b2) ok2) q
  | true => exact hQ true H1 q b1 ok1
theorem evt_not (h1 : EvT G t s) : EvT G (tNot t) (mNot s) := fun B H σ ρ hS Qd Q hQ hm => h1 B H σ ρ hS (fun b => Qd (!b)) _ (fun b H1 q b1 ok1 => hQ (!b) H1 q b1 ok1) hm
theorem evd_andV (h1 : EvD G ta ma) (h2 : EvD G tb mb) : EvD G (tAndV ta tb) (mAndV ma mb) := by
  intro B H σ ρ hS Qd Q hQ hm
  refine h1 B H σ ρ hS (fun d => asBl d fun b => if b = true then mb ρ Qd else Qd (.bl false)) _ (fun d v H1 q b1 ok1 hd => ?_) hm
  obtain ⟨b, rfl, rfl, q⟩ := asBl_inv hd q
  refine ⟨b, rfl, ?_⟩
  cases b with
  | true => exact h2 B H1 σ ρ (hS.bx b1 ok1) Qd Q (fun d v H2 q b2 ok2 hd => hQ d v H2 q (b1.trans b2) ok2 hd) q
  | false => exact hQ _ _ H1 q b1 ok1 (.bl false)
theorem evd_orV (h1 : EvD G ta ma) (h2 : EvD G tb mb) : EvD G (tOrV ta tb) (mOrV ma mb) := by
  intro B H σ ρ hS Qd Q hQ hm
  refine h1 B H σ ρ hS (fun d => asBl d fun b => if b = true then Qd (.bl true) else mb ρ Qd) _ (fun d v H1 q b1 ok1 hd => ?_) hm
  obtain ⟨b, rfl, rfl, q⟩ := asBl_inv hd q
  refine ⟨b, rfl, ?_⟩
  cases b with
  | false => exact h2 B H1 σ ρ (hS.bx b1 ok1) Qd Q (fun d v H2 q b2 ok2 hd => hQ d v H2 q (b1.trans b2) ok2 hd) q
  | true => exact hQ _ _ H1 q b1 ok1 (.bl true)
theorem evd_notV (h1 : EvD G ta ma) : EvD G (tNotV ta) (mNotV ma) := by
  intro B H σ ρ hS Qd Q hQ hm
  refine h1 B H σ ρ hS (fun d => asBl d fun b => Qd (.bl (!b))) _ (fun d v H1 q b1 ok1 hd => ?_) hm
  obtain ⟨b, rfl, rfl, q⟩ := asBl_inv hd q
  exact ⟨b, rfl, hQ _ _ H1 q b1 ok1 (.bl _)⟩
theorem evd_orT (h1 : EvD G ta ma) (h2 : EvD G tb mb) : EvD G (tOrT G.K ta tb) (mOrT ma mb) := by
  intro B H σ ρ hS Qd Q hQ hm
  refine h1 B H σ ρ hS (fun d => tru d fun b => if b = true then Qd d else mb ρ Qd) _ (fun d v H1 q b1 ok1 hd => ?_) hm
  obtain ⟨b, hb, q⟩ := tru_inv hd q
  refine ⟨b, hb, ?_⟩
  cases b with
  | false => exact h2 B H1 σ ρ (hS.bx b1 ok1) Qd Q (fun d v H2 q b2 ok2 hd => hQ d v H2 q (b1.trans b2) ok2 hd) q
  | true => exact hQ _ _ H1 q b1 ok1 hd
theorem evd_andT (h1 : EvD G ta ma) (h2 : EvD G tb mb) : EvD G (tAndT G.K ta tb) (mAndT ma mb) := by
  intro B H σ ρ hS Qd Q hQ hm
  refine h1 B H σ ρ hS (fun d => tru d fun b => if b = true then mb ρ Qd else Qd d) _ (fun d v H1 q b1 ok1 hd => ?_) hm
  obtain ⟨b, hb, q⟩ := tru_inv hd q
  refine ⟨b, hb, ?_⟩
  cases b with
  | true => exact h2 B H1 σ ρ (hS.bx b1 ok1) Qd Q (fun d v H2 q b2 ok2 hd => hQ d v H2 q (b1.trans b2) ok2 hd) q
  | false => exact hQ _ _ H1 q b1 ok1 hd
theorem evd_if (hc : EvT G t s) (h1 : EvD G ta ma) (h2 : EvD G tb mb) : EvD G (tIf t ta tb) (mIf s ma mb) := by
  intro B H σ ρ hS Qd Q hQ hm
  refine hc B H σ ρ hS (fun b => if b = true then ma ρ Qd else mb ρ Qd) _ (fun b H1 q b1 ok1 => ?_) hm
  cases b with
  | true => exact h1 B H1 σ ρ (hS.bx b1 ok1) Qd Q (fun d v H2 q b2 ok2 hd => hQ d v H2 q (b1.trans b2) ok2 hd) q
  | false => exact h2 B H1 σ ρ (hS.bx b1 ok1) Qd Q (fun d v H2 q b2 ok2 hd => hQ d v H2 q (b1.trans b2) ok2 hd) q
theorem eva_nil : EvA G tNil mNil := fun B H σ ρ hS Qd Q hQ hm => hQ [] [] H hm (Bx.refl _ _) hS.ok .nil
theorem eva_cons (ha : EvD G ta ma) (hr : EvA G tA mA) : EvA G (tCons ta tA) (mCons ma mA) := by
  intro B H σ ρ hS Qd Q hQ hm
  refine ha B H σ ρ hS (fun d => mA ρ fun ds => Qd (d :: ds)) _ (fun d v H1 q b1 ok1 hd => ?_) hm
  refine hr B H1 σ ρ (hS.bx b1 ok1) (fun ds => Qd (d :: ds)) _ (fun ds vs H2 q b2 ok2 hds => ?_) q
  exact hQ (d :: ds) (v :: vs) H2 q (b1.trans b2) ok2 (.cons (hd.bx (b2.sub ok1.sub)) hds)
theorem dt_newL {B : Bs} {H : Hp} {p : Addr} {vs : List V} {ds : List D} (ok : Ok G B H) (hp : H p = none) (h : Dts G B H vs ds) : Dt G B (upd H p (.lst vs)) (.ref p) (.lst ds) :=
  .lst upd_same (ok.fresh hp) (h.bx (Bx.new hp))
theorem dt_newT {B : Bs} {H : Hp} {p : Addr} {vs : List V} {ds : List D} (ok : Ok G B H) (hp : H p = none) (h : Dts G B H vs ds) : Dt G B (upd H p (.tup vs)) (.ref p) (.tup ds) :=
  .tup (.inl ⟨upd_same, ok.fresh hp⟩) (h.bx (Bx.new hp))
theorem evd_tup (ha : EvA G tA mA) : EvD G (tTup tA) (mTup mA) := by
  intro B H σ ρ hS Qd Q hQ hm
  refine ha B H σ ρ hS (fun ds => ds.length ≤ sizeLine ∧ Qd (.tup ds)) _ (fun ds vs H1 q b1 ok1 hd => ?_) hm
  exact ⟨by rw [hd.length]; exact q.1, fun p hp => hQ _ _ _ q.2 (b1.trans (Bx.new hp)) (ok1.new hp) (dt_newT ok1 hp hd)⟩
theorem evd_lst (ha : EvA G tA mA) : EvD G (tLst tA) (mLst mA) := by
  intro B H σ ρ hS Qd Q hQ hm
  refine ha B H σ ρ hS (fun ds => ds.length ≤ sizeLine ∧ Qd (.lst ds)) _ (fun ds vs H1 q b1 ok1 hd => ?_) hm
  exact ⟨by rw [hd.length]; exact q.1, fun p hp => hQ _ _ _ q.2 (b1.trans (Bx.new hp)) (ok1.new hp) (dt_newL ok1 hp hd)⟩
theorem evd_cb {r : List V → Hp → VK → Prop} {f : List D → MD} (hf : CallD G r f) (ha : EvA G tA mA) : EvD G (tCB r tA) (mCall f mA) := by
  intro B H σ ρ hS Qd Q hQ hm
  refine ha B H σ ρ hS (fun ds => f ds Qd) _ (fun ds vs H1 q b1 ok1 hd => ?_) hm
  exact hf B H1 vs ds ok1 hd Qd Q (fun d v H2 q e2 hd => hQ d v H2 q (b1.trans e2.nil) (ok1.ex e2) hd) q
theorem evd_chain (h1 : OpD G r f) (h2 : OpD G r' g) (ha : EvD G ta ma) (hb : EvD G tb mb) (hc : EvD G tc mc) : EvD G (tChain r r' ta tb tc) (mChain f g ma mb mc) := by
  intro B H σ ρ hS Qd Q hQ hm
  refine ha B H σ ρ hS (fun x => mb ρ fun y => f x y fun z => asBl z fun k => if k = true then mc ρ fun w => g y w Qd else Qd (.bl false)) _ (fun dx x H1 q b1 ok1 hx => ?_) hm
  refine hb B H1 σ ρ (hS.bx b1 ok1) (fun y => f dx y fun z => asBl z fun k => if k = true then mc ρ fun w => g y w Qd else Qd (.bl false)) _ (fun dy y H2 q b2 ok2 hy => ?_) q
  refine h1 B H2 x y dx dy ok2 (hx.bx (b2.sub ok1.sub)) hy (fun z => asBl z fun k => if k = true then mc ρ fun w => g dy w Qd else Qd (.bl false)) _ (fun dz z H3 q e3 hz => ?_) q
  obtain ⟨k, rfl, rfl, q⟩ := asBl_inv hz q
  refine ⟨k, rfl, ?_⟩
  have ok3 := ok2.ex e3
  have b3 : Bx G.c H H3 := (b1.trans b2).trans e3.nil
  cases k with
  | false => exact hQ _ _ H3 q b3 ok3 (.bl false)
  | true =>
    refine hc B H3 σ ρ (hS.bx b3 ok3) (fun w => g dy w Qd) _ (fun dw w H4 q b4 ok4 hw => ?_) q
    exact h2 B H4 y w dy dw ok4 ((hy.bx e3.nil).bx (b4.sub ok3.sub)) hw Qd Q (fun d v H5 q e5 hd => hQ d v H5 q ((b3.trans b4).trans e5.nil) (ok4.ex e5) hd) q

/-! ### a def's promise -/
def spM (K : PySem.W.Frag) (n : Nat) (f : List D → MD) : Sp := fun vs H Q _ => ∃ (b : Option (Addr × Addr)) (B : Bs) (ds : List D) (Qd : D → Prop), Ok ⟨K, b⟩ B H ∧ Dts ⟨K, b⟩ B H vs ds ∧ ds.length = n ∧ f ds Qd ∧
  ∀ d v H2, Qd d → Bx (Ga.c ⟨K, b⟩) H H2 → Ok ⟨K, b⟩ B H2 → Dt ⟨K, b⟩ B H2 v d → Q v H2
theorem spM_len {K : PySem.W.Frag} {n : Nat} {f : List D → MD} {vs : List V} {H : Hp} {Q : VK} {E : XK} (h : spM K n f vs H Q E) : vs.length = n := by
  obtain ⟨b, B, ds, Qd, _, hd, hl, _⟩ := h
  rw [hd.length, hl]
theorem evd_call {n : Nat} {F : List D → MD} {dvs : List V} {es : List D} {E : XK} (hdv : ∀ B H, Dts G B H dvs es) (ha : EvA G tA mA) : EvD G (tCall (spM G.K n F) dvs E tA) (mFn n F es mA) := by
  intro B H σ ρ hS Qd Q hQ hm
  refine ha B H σ ρ hS (fun ds => (ds ++ es).length = n ∧ F (ds ++ es) Qd) _ (fun ds vs H1 q b1 ok1 hd => ?_) hm
  exact ⟨G.b, B, ds ++ es, Qd, ok1, hd.append (hdv B H1), q.1, q.2, fun d v H2 q b2 ok2 hd => hQ d v H2 q (b1.trans b2) ok2 hd⟩

/-! ### slices -/
def MO := Rho → (Option Int → Prop) → Prop
def EvO (G : Ga) (to : TO) (m : MO) : Prop := ∀ (B : Bs) (H : Hp) (σ : L2.St) (ρ : Rho), Sta G B H σ ρ → ∀ (Qd : Option Int → Prop) (Q : Option Int → Hp → Prop),
  (∀ d H2, Qd d → Bx G.c H H2 → Ok G B H2 → Q d H2) → m ρ Qd → to σ H Q
def mNoPart : MO := fun _ Q => Q none
def asInt (d : D) (Q : Int → Prop) : Prop := match d with
  | .int i => Q i
  | _ => False
def mPart (m : ME) : MO := fun ρ Q => m ρ fun d => asInt d fun i => Q (some i)
theorem asInt_inv {v : V} {d : D} {B H} {Qd : Int → Prop} (h : Dt G B H v d) (q : asInt d Qd) : ∃ b, v = .int b ∧ d = .int b ∧ Qd b := by
  cases h with
  | int b => exact ⟨b, rfl, rfl, q⟩
  | _ => exact (show False from q).elim
theorem evo_none : EvO G tNoPart mNoPart := fun B H σ ρ hS Qd Q hQ hm => hQ none H hm (Bx.refl _ _) hS.ok
theorem evo_some (h : EvD G ta ma) : EvO G (tPart ta) (mPart ma) := by
  intro B H σ ρ hS Qd Q hQ hm
  refine h B H σ ρ hS (fun d => asInt d fun i => Qd (some i)) _ (fun d v H1 q b1 ok1 hd => ?_) hm
  obtain ⟨i, rfl, rfl, q⟩ := asInt_inv hd q
  exact ⟨i, rfl, hQ _ H1 q b1 ok1⟩
def mSl (f : D → Option Int → Option Int → MD) (m : ME) (l h : MO) : ME := fun ρ Q => m ρ fun d => l ρ fun i => h ρ fun j => f d i j Q
theorem evd_sl {r : V → Option Int → Option Int → Hp → VK → Prop} {f : D → Option Int → Option Int → MD} {tl th : TO} {l h : MO} (hr : SlD G r f) (ha : EvD G ta ma) (hl : EvO G tl l) (hh : EvO G th h) : EvD G (tSl r ta tl th) (mSl f ma l h) := by
  intro B H σ ρ hS Qd Q hQ hm
  refine ha B H σ ρ hS (fun d => l ρ fun i => h ρ fun j => f d i j Qd) _ (fun d v H1 q b1 ok1 hd => ?_) hm
  refine hl B H1 σ ρ (hS.bx b1 ok1) (fun i => h ρ fun j => f d i j Qd) _ (fun i H2 q b2 ok2 => ?_) q
  refine hh B H2 σ ρ (hS.bx (b1.trans b2) ok2) (fun j => f d i j Qd) _ (fun j H3 q b3 ok3 => ?_) q
  exact hr B H3 v d i j ok3 (hd.bx ((b2.trans b3).sub ok1.sub)) Qd Q (fun d' v' H4 q e4 hd' => hQ d' v' H4 q (((b1.trans b2).trans b3).trans e4.nil) (ok3.ex e4) hd') q

/-! ### methods of texts -/
def asStr (d : D) (Q : Str → Prop) : Prop := match d with
  | .str i => Q i
  | _ => False
theorem asStr_inv {v : V} {d : D} {B H} {Qd : Str → Prop} (h : Dt G B H v d) (q : asStr d Qd) : ∃ b, v = .str b ∧ d = .str b ∧ Qd b := by
  cases h with
  | str b => exact ⟨b, rfl, rfl, q⟩
  | _ => exact (show False from q).elim
def mM1 (f : D → D → MD) (ma mb : ME) : ME := fun ρ Q => ma ρ fun x => asStr x fun z => mb ρ fun y => f (.str z) y Q
def mM0 (f : D → MD) (ma : ME) : ME := fun ρ Q => ma ρ fun x => asStr x fun z => f (.str z) Q
theorem evd_m1 {r : V → List V → Hp → VK → Prop} {f : D → D → MD} (hf : OpD G (fun x y H Q => r x [y] H Q) f) (ha : EvD G ta ma) (hb : EvD G tb mb) : EvD G (tM1 r ta tb) (mM1 f ma mb) := by
  intro B H σ ρ hS Qd Q hQ hm
  refine ha B H σ ρ hS (fun x => asStr x fun z => mb ρ fun y => f (.str z) y Qd) _ (fun d v H1 q b1 ok1 hd => ?_) hm
  obtain ⟨z, rfl, rfl, q⟩ := asStr_inv hd q
  refine ⟨⟨z, rfl⟩, ?_⟩
  refine hb B H1 σ ρ (hS.bx b1 ok1) (fun y => f (.str z) y Qd) _ (fun dy y H2 q b2 ok2 hy => ?_) q
  exact hf B H2 (.str z) y (.str z) dy ok2 (.str z) hy Qd Q (fun d v H3 q e3 hd => hQ d v H3 q ((b1.trans b2).trans e3.nil) (ok2.ex e3) hd) q
theorem evd_m0 {r : V → List V → Hp → VK → Prop} {f : D → MD} (hf : UnD G (fun x H Q => r x [] H Q) f) (ha : EvD G ta ma) : EvD G (tM0 r ta) (mM0 f ma) := by
  intro B H σ ρ hS Qd Q hQ hm
  refine ha B H σ ρ hS (fun x => asStr x fun z => f (.str z) Qd) _ (fun d v H1 q b1 ok1 hd => ?_) hm
  obtain ⟨z, rfl, rfl, q⟩ := asStr_inv hd q
  refine ⟨⟨z, rfl⟩, ?_⟩
  exact hf B H1 (.str z) (.str z) ok1 (.str z) Qd Q (fun d v H3 q e3 hd => hQ d v H3 q (b1.trans e3.nil) (ok1.ex e3) hd) q
end
end Dz

namespace Dz
open PySem PySem.Spec PyProof.Rows L2

/-! ### targets -/
theorem wipe_get (σ : L2.St) (i : Nat) : ∀ vs : List Nat, (wipe σ vs)[i]? = if i ∈ vs then (σ[i]?).map (fun _ => none) else σ[i]?
  | [] => by simp [wipe]
  | v :: vs => by
    unfold wipe
    rw [List.getElem?_set, wipe_get σ i vs, wipe_length]
    by_cases h : v = i
    · subst h
      have hm : v ∈ v :: vs := List.mem_cons_self
      rw [if_pos rfl, if_pos hm]
      by_cases hl : v < σ.length
      · rw [if_pos hl, List.getElem?_eq_getElem hl]; rfl
      · rw [if_neg hl, List.getElem?_eq_none (by omega)]; rfl
    · rw [if_neg h]
      by_cases hm : i ∈ vs
      · rw [if_pos hm, if_pos (List.mem_cons_of_mem _ hm)]
      · rw [if_neg hm, if_neg (fun z => (List.mem_cons.mp z).elim (fun q => h q.symm) hm)]
theorem wipe_eq {σ σ' : L2.St} {vs : List Nat} (hl : σ'.length = σ.length) (h : ∀ i, i ∉ vs → σ'[i]? = σ[i]?) : wipe σ' vs = wipe σ vs := by
  apply List.ext_getElem?
  intro i
  rw [wipe_get, wipe_get]
  by_cases hi : i ∈ vs
  · rw [if_pos hi, if_pos hi]
    by_cases hb : i < σ.length
    · rw [List.getElem?_eq_getElem hb, List.getElem?_eq_getElem (by omega : i < σ'.length)]; rfl
    · rw [List.getElem?_eq_none (by omega : σ.length ≤ i), List.getElem?_eq_none (by omega : σ'.length ≤ i)]
  · rw [if_neg hi, if_neg hi]; exact h i hi
theorem wipe_wipe (σ : L2.St) (vs : List Nat) : wipe (wipe σ vs) vs = wipe σ vs := wipe_eq (wipe_length σ vs) fun i hi => by rw [wipe_get, if_neg hi]
abbrev MG := D → Rho → (Rho → Prop) → Prop
/-- no own list and no instance in the making is new -/
def KeepR (σ : L2.St) (ρ : Rho) (σ' : L2.St) (ρ' : Rho) : Prop := (∀ (i : Nat) (ds : List D), ρ'[i]? = some (Slot.own ds) → ρ[i]? = some (Slot.own ds) ∧ σ'[i]? = σ[i]?) ∧ ∀ a C fs, ρ'[0]? = some (Slot.slf a C fs) → ρ[0]? = some (Slot.slf a C fs)
theorem KeepR.refl (σ : L2.St) (ρ : Rho) : KeepR σ ρ σ ρ := ⟨fun _ _ h => ⟨h, rfl⟩, fun _ _ _ h => h⟩
theorem KeepR.trans {σ σ1 σ2 : L2.St} {ρ ρ1 ρ2 : Rho} (h : KeepR σ ρ σ1 ρ1) (k : KeepR σ1 ρ1 σ2 ρ2) : KeepR σ ρ σ2 ρ2 := ⟨fun i ds e => by
  obtain ⟨e1, e2⟩ := k.1 i ds e
  obtain ⟨e3, e4⟩ := h.1 i ds e1
  exact ⟨e3, e2.trans e4⟩, fun a C fs e => h.2 a C fs (k.2 a C fs e)⟩
/-- ws: the slots that it stores -/
def EvG (G : Ga) (g : TG) (ws : List Nat) (m : MG) : Prop := ∀ (B : Bs) (H : Hp) (σ : L2.St) (ρ : Rho), Sta G B H σ ρ → ∀ (v : V) (d : D), Dt G B H v d → ∀ (Qr : Rho → Prop) (Q : L2.St → Hp → Prop),
  (∀ ρ' σ', Qr ρ' → Sta G B H σ' ρ' → σ'.length = σ.length → (∀ (i : Nat), i ∉ ws → σ'[i]? = σ[i]?) → KeepR σ ρ σ' ρ' → Q σ' H) → m d ρ Qr → g v σ H Q
def gvName (i : Nat) : MG := fun d ρ Q => Q (ρ.set i (.val d))
theorem set_own {ρ : Rho} {σ : L2.St} {i : Nat} {v : V} {d : D} (j : Nat) (ds : List D) (h : (ρ.set i (Slot.val d))[j]? = some (Slot.own ds)) : ρ[j]? = some (Slot.own ds) ∧ (σ.set i (some v))[j]? = σ[j]? := by
  rw [List.getElem?_set] at h ⊢
  split at h
  · split at h <;> cases h
  · rename_i z
    rw [if_neg z]; exact ⟨h, rfl⟩
theorem keep_set {σ : L2.St} {ρ : Rho} {i : Nat} {v : V} {d : D} : KeepR σ ρ (σ.set i (some v)) (ρ.set i (Slot.val d)) := ⟨fun j ds h => set_own j ds h, fun a C fs e => (slf_set (fun _ _ _ z => by cases z) e).2⟩
theorem evg_name {G : Ga} {i : Nat} : EvG G (gName i) [i] (gvName i) := by
  intro B H σ ρ hS v d hd Qr Q hQ hm
  exact hQ _ _ hm (hS.set hd) (by simp) (fun j hj => List.getElem?_set_ne (fun z => hj (by simp [z]))) keep_set
/-- (a, b, ..) = a tuple -/
abbrev MGs := List D → Rho → (Rho → Prop) → Prop
def EvGs (G : Ga) (g : TGs) (ws : List Nat) (m : MGs) : Prop := ∀ (B : Bs) (H : Hp) (σ : L2.St) (ρ : Rho), Sta G B H σ ρ → ∀ (v : List V) (d : List D), Dts G B H v d → ∀ (Qr : Rho → Prop) (Q : L2.St → Hp → Prop),
  (∀ ρ' σ', Qr ρ' → Sta G B H σ' ρ' → σ'.length = σ.length → (∀ (i : Nat), i ∉ ws → σ'[i]? = σ[i]?) → KeepR σ ρ σ' ρ' → Q σ' H) → m d ρ Qr → g v σ H Q
def gvNil : MGs := fun ds ρ Q => match ds with
  | [] => Q ρ
  | _ => False
def gvCons (m : MG) (ms : MGs) : MGs := fun ds ρ Q => match ds with
  | d :: r => m d ρ fun ρ' => ms r ρ' Q
  | _ => False
theorem evgs_nil {G : Ga} : EvGs G gNil [] gvNil := by
  intro B H σ ρ hS v d hd Qr Q hQ hm
  cases hd with
  | nil => exact ⟨rfl, hQ _ _ hm hS rfl (fun _ _ => rfl) (KeepR.refl _ _)⟩
  | cons _ _ => exact (show False from hm).elim
theorem evgs_cons {G : Ga} {g : TG} {gs : TGs} {ws vs : List Nat} {m : MG} {ms : MGs} (h1 : EvG G g ws m) (h2 : EvGs G gs vs ms) : EvGs G (gCons g gs) (ws ++ vs) (gvCons m ms) := by
  intro B H σ ρ hS v d hd Qr Q hQ hm
  cases hd with
  | nil => exact (show False from hm).elim
  | cons a t =>
    refine ⟨_, _, rfl, ?_⟩
    refine h1 B H σ ρ hS _ _ a (fun ρ' => ms _ ρ' Qr) _ (fun ρ' σ' q hS' hl hw ho => ?_) hm
    refine h2 B H σ' ρ' hS' _ _ t Qr _ (fun ρ2 σ2 q hS2 hl2 hw2 ho2 => ?_) q
    refine hQ _ _ q hS2 (hl2.trans hl) (fun i hi => ?_) (ho.trans ho2)
    rw [hw2 i (fun z => hi (List.mem_append_right _ z)), hw i (fun z => hi (List.mem_append_left _ z))]
def gvTup (n : Nat) (ms : MGs) : MG := fun d ρ Q => match d with
  | .tup ds => ds.length = n ∧ ms ds ρ Q
  | _ => False
theorem evg_tup {G : Ga} {n : Nat} {gs : TGs} {ws : List Nat} {ms : MGs} (h : EvGs G gs ws ms) : EvG G (gTup G.K n gs) ws (gvTup n ms) := by
  intro B H σ ρ hS v d hd Qr Q hQ hm
  cases hd with
  | tup h1 h2 => exact ⟨_, _, rfl, h1.sq, by rw [h2.length]; exact hm.1, h B H σ ρ hS _ _ h2 Qr Q hQ hm.2⟩
  | _ => exact (show False from hm).elim

/-! ### what is walked -/
def ItD (G : Ga) (B : Bs) (H : Hp) (J : It) (ds : List D) : Prop := ∀ (B' : Bs) (H' : Hp), Tr B H B' H' → Ok G B' H' → ∀ i, (i = ds.length → J.stop i H') ∧
  ∀ d, ds[i]? = some d → J.go i H' ∧ ∀ x H'', J.yld i H' x H'' → Bx .no H' H'' ∧ Dt G B' H'' x d
def EvI (G : Ga) (wi : TI) (m : MA) : Prop := ∀ (B : Bs) (H : Hp) (σ : L2.St) (ρ : Rho), Sta G B H σ ρ → ∀ (Qd : List D → Prop) (Q : It → Hp → Prop),
  (∀ ds J H1, Qd ds → Bx G.c H H1 → Ok G B H1 → ItD G B H1 J ds → Q J H1) → m ρ Qd → wi σ H Q
def asLst (d : D) (Q : List D → Prop) : Prop := match d with
  | .lst xs => Q xs
  | _ => False
def asTup (d : D) (Q : List D → Prop) : Prop := match d with
  | .tup xs => Q xs
  | _ => False
def miList (m : ME) : MA := fun ρ Q => m ρ fun d => asLst d Q
def miTup (m : ME) : MA := fun ρ Q => m ρ fun d => asTup d Q
def chars (x : Str) : List D := x.cps.toList.map fun c => .str ⟨#[c]⟩
def miStr (m : ME) : MA := fun ρ Q => m ρ fun d => asStr d fun x => Q (chars x)
def upTo (n : Nat) : List D := (List.range n).map fun (i : Nat) => D.int (i : Int)
def from_ (lo : Int) (n : Nat) : List D := (List.range n).map fun (i : Nat) => D.int (lo + (i : Int))
def miRng1 (m : MA) : MA := fun ρ Q => m ρ fun ds => match ds with
  | [.int n] => n < 2 ^ 62 ∧ -(2 ^ 62) ≤ n ∧ Q (upTo n.toNat)
  | _ => False
def miRng2 (m : MA) : MA := fun ρ Q => m ρ fun ds => match ds with
  | [.int i, .int j] => (-(2 ^ 62) ≤ i ∧ i < 2 ^ 62 ∧ -(2 ^ 62) ≤ j ∧ j < 2 ^ 62) ∧ Q (from_ i (j - i).toNat)
  | _ => False
section
variable {G : Ga} {ta : TE} {ma : ME} {tA : TA} {mA : MA}
theorem itd_list {B : Bs} {H : Hp} {a : Addr} {vs : List V} {ds : List D} (h1 : H a = some (.lst vs)) (h2 : a ∉ B) (h3 : Dts G B H vs ds) : ItD G B H (Itl G.K a) ds := by
  intro B' H' k ok i
  have e1 := (k _ _ h2 h1).2
  have q1 : SqL G.K H' a vs := .inl (.inl e1)
  have h4 : Dts G B' H' vs ds := h3.to k
  refine ⟨fun e => ⟨vs, q1, by rw [h3.length, e]; exact Nat.le_refl _⟩, fun d e => ?_⟩
  obtain ⟨v, ev, hv⟩ := h4.get e
  refine ⟨⟨vs, v, q1, ev⟩, fun x H'' hy => ?_⟩
  obtain ⟨rfl, f⟩ := hy
  have : v = x := Option.some.inj (ev.symm.trans (f _ q1))
  subst this
  exact ⟨Bx.refl _ _, hv⟩
theorem evi_list (h : EvD G ta ma) : EvI G (iList G.K ta) (miList ma) := by
  intro B H σ ρ hS Qd Q hQ hm
  refine h B H σ ρ hS (fun d => asLst d Qd) _ (fun d v H1 q b1 ok1 hd => ?_) hm
  cases hd with
  | lst h1 h2 h3 => exact ⟨_, rfl, ⟨_, .inl (.inl h1)⟩, hQ _ _ H1 q b1 ok1 (itd_list h1 h2 h3)⟩
  | _ => exact (show False from q).elim
theorem evi_tup (h : EvD G ta ma) : EvI G (iTup G.K ta) (miTup ma) := by
  intro B H σ ρ hS Qd Q hQ hm
  refine h B H σ ρ hS (fun d => asTup d Qd) _ (fun d v H1 q b1 ok1 hd => ?_) hm
  cases hd with
  | tup h1 h3 =>
    refine ⟨_, rfl, ⟨_, h1.sq⟩, hQ _ _ H1 q b1 ok1 (fun B' H' k ok i => ?_)⟩
    have h4 := h3.to k
    have q1 : SqT G.K H' _ _ := StT.sq (B := B') (by
      rcases h1 with ⟨h1, hn⟩ | h1
      · exact .inl ⟨(k _ _ hn h1).2, (k _ _ hn h1).1⟩
      · exact .inr h1)
    refine ⟨fun e => ⟨_, q1, by rw [h3.length, e]; exact Nat.le_refl _⟩, fun d e => ?_⟩
    obtain ⟨v, ev, hv⟩ := h4.get e
    refine ⟨⟨_, v, q1, ev⟩, fun x H'' hy => ?_⟩
    obtain ⟨rfl, f⟩ := hy
    have : v = x := Option.some.inj (ev.symm.trans (f _ q1))
    subst this
    exact ⟨Bx.refl _ _, hv⟩
  | _ => exact (show False from q).elim
theorem chars_get {x : Str} {i : Nat} {d : D} (h : (chars x)[i]? = some d) : ∃ c, x.cps[i]? = some c ∧ d = .str ⟨#[c]⟩ := by
  unfold chars at h
  rw [List.getElem?_map] at h
  cases e : x.cps.toList[i]? with
  | none => rw [e] at h; cases h
  | some c =>
    rw [e] at h
    exact ⟨c, by simpa using e, (Option.some.inj h).symm⟩
theorem evi_str (h : EvD G ta ma) : EvI G (iStr ta) (miStr ma) := by
  intro B H σ ρ hS Qd Q hQ hm
  refine h B H σ ρ hS (fun d => asStr d fun x => Qd (chars x)) _ (fun d v H1 q b1 ok1 hd => ?_) hm
  obtain ⟨x, rfl, rfl, q⟩ := asStr_inv hd q
  refine ⟨x, rfl, hQ _ _ H1 q b1 ok1 (fun B' H' k ok i => ⟨fun e => ?_, fun d e => ?_⟩)⟩
  · show x.cps.size ≤ i
    rw [e]; simp [chars]
  · obtain ⟨c, e1, rfl⟩ := chars_get e
    refine ⟨?_, fun y H'' hy => ?_⟩
    · show i < x.cps.size
      exact (Array.getElem?_eq_some_iff.mp e1).1
    · obtain ⟨rfl, c', e2, rfl⟩ := hy
      have : c = c' := Option.some.inj (e1.symm.trans e2)
      subst this
      exact ⟨Bx.refl _ _, .str _⟩
theorem itd_rng {B : Bs} {H : Hp} {lo : Int} {n : Nat} : ItD G B H (Itr lo n) (from_ lo n) := by
  intro B' H' k ok i
  refine ⟨fun e => ?_, fun d e => ?_⟩
  · show n ≤ i
    rw [e]; simp [from_]
  · unfold from_ at e
    rw [List.getElem?_map] at e
    by_cases hi : i < n
    · rw [List.getElem?_range hi] at e
      have e' : D.int (lo + (i : Int)) = d := Option.some.inj e
      subst e'
      refine ⟨hi, fun x H'' hy => ?_⟩
      obtain ⟨rfl, rfl⟩ := hy
      exact ⟨Bx.refl _ _, .int _⟩
    · rw [List.getElem?_eq_none (by simpa using hi)] at e; cases e
theorem from_zero (n : Nat) : from_ 0 n = upTo n := by
  unfold from_ upTo
  congr 1
  funext i
  rw [Int.zero_add]
theorem evi_rng1 (h : EvA G tA mA) : EvI G (iRng1 tA) (miRng1 mA) := by
  intro B H σ ρ hS Qd Q hQ hm
  refine h B H σ ρ hS (fun ds => match ds with
    | [.int n] => n < 2 ^ 62 ∧ -(2 ^ 62) ≤ n ∧ Qd (upTo n.toNat)
    | _ => False) _ (fun ds v H1 q b1 ok1 hd => ?_) hm
  cases hd with
  | nil => exact (show False from q).elim
  | cons a t =>
    cases t with
    | cons _ _ => cases a <;> exact (show False from q).elim
    | nil =>
      cases a with
      | int n => exact ⟨n, rfl, q.2.1, q.1, hQ _ _ H1 q.2.2 b1 ok1 (by rw [← from_zero]; exact itd_rng)⟩
      | _ => exact (show False from q).elim
theorem evi_rng2 (h : EvA G tA mA) : EvI G (iRng2 tA) (miRng2 mA) := by
  intro B H σ ρ hS Qd Q hQ hm
  refine h B H σ ρ hS (fun ds => match ds with
    | [.int i, .int j] => (-(2 ^ 62) ≤ i ∧ i < 2 ^ 62 ∧ -(2 ^ 62) ≤ j ∧ j < 2 ^ 62) ∧ Qd (from_ i (j - i).toNat)
    | _ => False) _ (fun ds v H1 q b1 ok1 hd => ?_) hm
  cases hd with
  | nil => exact (show False from q).elim
  | cons a t =>
    cases t with
    | nil => cases a <;> exact (show False from q).elim
    | cons c t2 =>
      cases t2 with
      | cons _ _ => cases a <;> cases c <;> exact (show False from q).elim
      | nil =>
        cases a with
        | int i =>
          cases c with
          | int j => exact ⟨i, j, rfl, q.1, hQ _ _ H1 q.2 b1 ok1 itd_rng⟩
          | _ => exact (show False from q).elim
        | _ => cases c <;> exact (show False from q).elim
end

/-! ### comprehensions -/
def compM (mg : MG) (mt : MT) (me : ME) (ρ : Rho) : List D → (List D → Prop) → Prop
  | [], Q => Q []
  | d :: ds, Q => mg d ρ fun ρ1 => mt ρ1 fun b => if b = true then me ρ1 fun y => compM mg mt me ρ ds fun ys => Q (y :: ys) else compM mg mt me ρ ds Q
def mLc (mi : MA) (mg : MG) (mt : MT) (me : ME) (vs : List Nat) : ME := fun ρ Q => mi ρ fun ds => ds.length ≤ sizeLine ∧ compM mg mt me (wipeR ρ vs) ds fun out => Q (.lst out)
def mYes : MT := fun _ Q => Q true
theorem evt_yes {G : Ga} : EvT G (fun _ H Q => Q true H) mYes := fun B H σ ρ hS Qd Q hQ hm => hQ true H hm (Bx.refl _ _) hS.ok
theorem evd_lc {G : Ga} {wi : TI} {g : TG} {tt : TT} {te : TE} {vs ws : List Nat} {mi : MA} {mg : MG} {mt : MT} {me : ME} (hi : EvI G wi mi) (hg : EvG G g ws mg) (hw : ∀ i ∈ ws, i ∈ vs) (ht : EvT G tt mt) (he : EvD G te me) :
    EvD G (tLc wi g tt te vs) (mLc mi mg mt me vs) := by
  intro B H σ ρ hS Qd Q hQ hm
  refine hi B H σ ρ hS (fun ds => ds.length ≤ sizeLine ∧ compM mg mt me (wipeR ρ vs) ds fun out => Qd (.lst out)) _ (fun ds J H1 q b1 ok1 hJ => ?_) hm
  obtain ⟨hlen, q⟩ := q
  intro Dl hD
  have hS1 := hS.bx b1 ok1
  have nB : Dl ∉ B := ok1.fresh hD
  have nG : Dl ∉ G.c := fun z => nB (ok1.sub _ z)
  refine ⟨fun i m H' => i + m = ds.length ∧ ∃ acc accD, H' Dl = some (.lst acc) ∧ Dts G (Bs.cons Dl B) H' acc accD ∧ acc.length ≤ i ∧ Sta G (Bs.cons Dl B) H' (wipe σ vs) (wipeR ρ vs) ∧ Tr B H1 (Bs.cons Dl B) H' ∧ Bx G.c H1 H' ∧
      compM mg mt me (wipeR ρ vs) (ds.drop i) (fun ys => Qd (.lst (accD ++ ys))), ⟨ds.length, by omega, [], [], upd_same, .nil, Nat.zero_le _, (hS1.wipe vs).more hD, fun a o n e => ⟨fun z => (Bs.mem_cons.mp z).elim (fun z => ne_of_none e hD z) n, by rw [upd_ne (ne_of_none e hD)]; exact e⟩, Bx.new hD, q⟩, ?_⟩
  rintro i m H' ⟨em, acc, accD, hacc, hds, hal, hS', hT, hB, hc⟩
  obtain ⟨hstop, hgo⟩ := hJ (Bs.cons Dl B) H' hT hS'.ok i
  by_cases hlt : i < ds.length
  · right
    have ed : ds[i]? = some ds[i] := List.getElem?_eq_getElem hlt
    obtain ⟨go, yl⟩ := hgo _ ed
    refine ⟨go, fun H2 => ∃ acc accD, H2 Dl = some (.lst acc) ∧ Dts G (Bs.cons Dl B) H2 acc accD ∧ acc.length ≤ i + 1 ∧ Sta G (Bs.cons Dl B) H2 (wipe σ vs) (wipeR ρ vs) ∧ Tr B H1 (Bs.cons Dl B) H2 ∧ Bx G.c H1 H2 ∧
      compM mg mt me (wipeR ρ vs) (ds.drop (i + 1)) (fun ys => Qd (.lst (accD ++ ys))), fun H2 h2 => ⟨m - 1, by omega, by omega, h2⟩, fun x H2 hy => ?_⟩
    obtain ⟨e2, hx⟩ := yl x H2 hy
    have hS2 : Sta G (Bs.cons Dl B) H2 (wipe σ vs) (wipeR ρ vs) := hS'.bx e2.nil (hS'.ok.ex e2)
    rw [List.drop_eq_getElem_cons hlt] at hc
    refine hg (Bs.cons Dl B) H2 (wipe σ vs) (wipeR ρ vs) hS2 x ds[i] hx _ _ (fun ρ1 σ1 q1 hS3 hl3 hw3 ho3 => ?_) hc
    refine ⟨by rw [wipe_eq hl3 fun j hj => hw3 j fun z => hj (hw j z), wipe_wipe], ?_⟩
    refine ht (Bs.cons Dl B) H2 σ1 ρ1 hS3 _ _ (fun b H3 q3 b3 ok3 => ?_) q1
    have t3 : ∀ {H4 : Hp}, Bx G.c H2 H4 → Ok G (Bs.cons Dl B) H4 → (H4 Dl = some (.lst acc)) ∧ Dts G (Bs.cons Dl B) H4 acc accD ∧ Sta G (Bs.cons Dl B) H4 (wipe σ vs) (wipeR ρ vs) ∧ Tr B H1 (Bs.cons Dl B) H4 ∧ Bx G.c H1 H4 := fun {H4} b4 ok4 =>
      ⟨b4 _ _ nG (e2 _ _ (fun z => z) hacc), (hds.bx e2.nil).bx (b4.sub hS2.ok.sub), hS2.bx b4 ok4, fun a o n e => by
        obtain ⟨n1, e1⟩ := hT a o n e
        exact ⟨n1, b4 a o (fun z => n1 (hS2.ok.sub _ z)) (e2 a o (fun z => z) e1)⟩, (hB.trans e2.nil).trans b4⟩
    cases b with
    | false =>
      rw [if_neg Bool.false_ne_true] at q3 ⊢
      obtain ⟨r1, r2, r3, r4, r5⟩ := t3 b3 ok3
      exact ⟨acc, accD, r1, r2, by omega, r3, r4, r5, q3⟩
    | true =>
      rw [if_pos rfl] at q3 ⊢
      refine he (Bs.cons Dl B) H3 σ1 ρ1 (hS3.bx b3 ok3) _ _ (fun y v H4 q4 b4 ok4 hv => ?_) q3
      obtain ⟨r1, r2, r3, r4, r5⟩ := t3 (b3.trans b4) ok4
      have hm4 : Dl ∈ Bs.cons Dl B := Bs.mem_self
      refine ⟨acc, r1, by omega, acc ++ [v], accD ++ [y], upd_same, (r2.append (.cons hv .nil)).bx (Bx.put hm4), by rw [List.length_append]; show acc.length + 1 ≤ i + 1; omega, ?_, fun a o n e => ?_, fun a o n e => ?_, ?_⟩
      · refine ⟨ok4.put nG, r3.len, fun j d e => ?_, fun j ds' e => ?_, r3.inj, fun a C ds' e => ?_⟩
        · obtain ⟨w, e1, e2⟩ := r3.val j d e
          exact ⟨w, e1, e2.bx (Bx.put hm4)⟩
        · obtain ⟨a, us, e1, e2, e3, e4, e5⟩ := (hS1.wipe vs).own j ds' e
          have na : a ≠ Dl := fun z => nB (z ▸ e3)
          obtain ⟨a', us', f1, f2, f3, f4, f5⟩ := r3.own j ds' e
          have ea : a' = a := by rw [e1] at f1; cases f1; rfl
          subst ea
          exact ⟨a', us', f1, by rw [upd_ne na]; exact f2, f3, f4, f5.bx (Bx.put hm4)⟩
        · obtain ⟨dx, fs, e1, e2, e3, e4, e5⟩ := (hS1.wipe vs).slf a C ds' e
          have na : a ≠ Dl := fun z => nB (z ▸ e3)
          obtain ⟨dx', fs', f1, f2, f3, f4, f5⟩ := r3.slf a C ds' e
          exact ⟨dx', fs', f1, by rw [upd_ne na]; exact f2, f3, f4, f5.bx (Bx.put hm4)⟩
      · obtain ⟨n1, e1⟩ := r4 a o n e
        exact ⟨n1, by rw [upd_ne fun z => n1 (by rw [z]; exact hm4)]; exact e1⟩
      · have := r5 a o n e
        rw [upd_ne]
        · exact this
        · rintro rfl
          rw [e] at hD; cases hD
      · have e5 : ∀ ys, accD ++ [y] ++ ys = accD ++ (y :: ys) := fun ys => by simp
        simp only [e5]
        exact q4
  · left
    have ei : i = ds.length := by omega
    refine ⟨hstop ei, ?_⟩
    rw [List.drop_eq_nil_of_le (by omega)] at hc
    have hc' : Qd (.lst (accD ++ [])) := hc
    rw [List.append_nil] at hc'
    refine hQ _ _ H' hc' (b1.trans hB) (hS'.ok.drop nG) (.lst hacc nB (hds.less fun a ha => Bs.mem_of ha))
end Dz

namespace Dz
open PySem PySem.Spec PyProof.Rows L2

/-! ### data as the library's data -/
def kPy : Key → PyData
  | .inl i => .int i
  | .inr x => .str x
mutual
def D.py : D → PyData
  | .bl b => .bool b
  | .int i => .int i
  | .str x => .str x
  | .lst xs => .list (D.pyAll xs)
  | .tup xs => .tuple (D.pyAll xs)
  | .dic kvs => .dict (D.pyKv kvs)
  | _ => .none
def D.pyAll : List D → List PyData
  | [] => []
  | d :: ds => d.py :: D.pyAll ds
def D.pyKv : List (Key × D) → List (PyData × PyData)
  | [] => []
  | (k, d) :: ds => (kPy k, d.py) :: D.pyKv ds
end
mutual
def D.pl : D → Bool
  | .non => true
  | .bl _ => true
  | .int _ => true
  | .str _ => true
  | .lst xs => D.plAll xs
  | .tup xs => D.plAll xs
  | _ => false
def D.plAll : List D → Bool
  | [] => true
  | d :: ds => d.pl && D.plAll ds
end
section
variable {G : Ga} {B : Bs} {H : Hp}
mutual
theorem Dt.dp : ∀ {v : V} {d : D}, Dt G B H v d → d.pl = true → Dp G.K H v d.py
  | _, _, .non, _ => by simp only [D.py]; exact .non
  | _, _, .bl b, _ => by simp only [D.py]; exact .bl b
  | _, _, .int i, _ => by simp only [D.py]; exact .int i
  | _, _, .str x, _ => by simp only [D.py]; exact .str x
  | _, _, .tup h hs, e => by simp only [D.py]; exact .tup h.sq (Dts.dp hs (by simpa only [D.pl] using e))
  | _, _, .lst h hn hs, e => by simp only [D.py]; exact .lst (.inl (.inl h)) (Dts.dp hs (by simpa only [D.pl] using e))
  | _, _, .dic _ _ _, e => by simp [D.pl] at e
  | _, _, .obj _ _ _, e => by simp [D.pl] at e
  | _, _, .ty _, e => by simp [D.pl] at e
  | _, _, .cls _, e => by simp [D.pl] at e
  | _, _, .bag _, e => by simp [D.pl] at e
theorem Dts.dp : ∀ {v : List V} {d : List D}, Dts G B H v d → D.plAll d = true → DpAll G.K H v (D.pyAll d)
  | _, _, .nil, _ => by simp only [D.pyAll]; exact .nil
  | _, _, .cons h hs, e => by
    simp only [D.plAll, Bool.and_eq_true] at e
    simp only [D.pyAll]
    exact .cons (Dt.dp h e.1) (Dts.dp hs e.2)
end
end
def sh (d : D) : Bool := d.pl && SeqAt.shaped d.py
theorem sh_pl {d : D} (h : sh d = true) : d.pl = true := (Bool.and_eq_true_iff.mp h).1
theorem sh_py {d : D} (h : sh d = true) : SeqAt.shaped d.py = true := (Bool.and_eq_true_iff.mp h).2
def eqv (x y : D) : Bool := PyData.eqv x.py y.py
def eqF (x y : D) (Q : D → Prop) : Prop := match x, y with
  | .str i, .str j => Q (.bl (i == j))
  | x, y => sh x = true ∧ sh y = true ∧ Q (.bl (eqv x y))
def neF (x y : D) (Q : D → Prop) : Prop := match x, y with
  | .str i, .str j => Q (.bl (!(i == j)))
  | x, y => sh x = true ∧ sh y = true ∧ Q (.bl (!eqv x y))
def rEqU (K : PySem.W.Frag) : R2 := fun x y H Q => rEq x y H Q ∨ rEqD K x y H Q
def rNeU (K : PySem.W.Frag) : R2 := fun x y H Q => rNe x y H Q ∨ rNeD K x y H Q
section
variable {G : Ga}
theorem opd_eq : OpD G (rEqU G.K) eqF := by
  intro B H x y dx dy ok hx hy Qd Q hQ hm
  unfold eqF at hm
  split at hm
  · cases hx; cases hy
    exact .inl ⟨rfl, by rw [dec_str]; exact hQ _ _ H hm (Bx.refl _ _) (.bl _)⟩
  · exact .inr ⟨_, _, hx.dp (sh_pl hm.1), hy.dp (sh_pl hm.2.1), sh_py hm.1, sh_py hm.2.1, hQ _ _ H hm.2.2 (Bx.refl _ _) (.bl _)⟩
theorem opd_ne : OpD G (rNeU G.K) neF := by
  intro B H x y dx dy ok hx hy Qd Q hQ hm
  unfold neF at hm
  split at hm
  · cases hx; cases hy
    exact .inl ⟨rfl, by rw [dec_str]; exact hQ _ _ H hm (Bx.refl _ _) (.bl _)⟩
  · exact .inr ⟨_, _, hx.dp (sh_pl hm.1), hy.dp (sh_pl hm.2.1), sh_py hm.1, sh_py hm.2.1, hQ _ _ H hm.2.2 (Bx.refl _ _) (.bl _)⟩

/-! ### + - * // % -/
def addF (x y : D) (Q : D → Prop) : Prop := match x, y with
  | .int i, .int j => Q (.int (i + j))
  | .str a, .str b => a.length + b.length ≤ sizeLine ∧ Q (.str (a ++ b))
  | .lst xs, .lst ys => xs.length + ys.length ≤ sizeLine ∧ Q (.lst (xs ++ ys))
  | .tup xs, .tup ys => xs.length + ys.length ≤ sizeLine ∧ Q (.tup (xs ++ ys))
  | _, _ => False
def rAddS0 : R2 := fun x y H Q => ∃ i j, x = .str i ∧ y = .str j ∧ i.length + j.length ≤ sizeLine ∧ Q (.str (i ++ j)) H
theorem op_addS0 {X : Cx} : OpR X (binaryOp .Add) rAddS0 := op_add_str
def rAddU (K : PySem.W.Frag) : R2 := fun x y H Q => rI0 (fun i j => .int (i + j)) x y H Q ∨ (rAddS0 x y H Q ∨ (rCat x y H Q ∨ rCatA K x y H Q))
theorem op_addU {X : Cx} : OpR X (binaryOp .Add) (rAddU X.K) := op_add.or (op_addS0.or (op_cat.or op_catA))
theorem Dts.nil_iff {B H} {vs : List V} {ds : List D} (h : Dts G B H vs ds) : vs = [] ↔ ds = [] := by
  cases h <;> simp
theorem opd_add : OpD G (rAddU G.K) addF := by
  intro B H x y dx dy ok hx hy Qd Q hQ hm
  cases hx with
  | int i =>
    cases hy with
    | int j => exact .inl ⟨i, j, rfl, rfl, hQ _ _ H hm (Bx.refl _ _) (.int _)⟩
    | _ => exact (show False from hm).elim
  | str i =>
    cases hy with
    | str j => exact .inr (.inl ⟨i, j, rfl, rfl, hm.1, hQ _ _ H hm.2 (Bx.refl _ _) (.str _)⟩)
    | _ => exact (show False from hm).elim
  | lst h1 n1 s1 =>
    cases hy with
    | lst h2 n2 s2 => exact .inr (.inr (.inl ⟨_, _, _, _, rfl, rfl, h1, h2, by rw [s1.length, s2.length]; exact hm.1, fun p hp => hQ _ _ _ hm.2 (Bx.new hp) (dt_newL ok hp (s1.append s2))⟩))
    | _ => exact (show False from hm).elim
  | tup h1 s1 =>
    cases hy with
    | tup h2 s2 =>
      refine .inr (.inr (.inr ⟨_, _, _, _, rfl, rfl, h1.sq, h2.sq, by rw [s1.length, s2.length]; exact hm.1, fun e => ?_, fun _ e => ?_, fun _ _ p hp => hQ _ _ _ hm.2 (Bx.new hp) (dt_newT ok hp (s1.append s2))⟩))
      · have e' := s1.nil_iff.mp e
        refine hQ _ _ H hm.2 (Bx.refl _ _) ?_
        rw [e', List.nil_append]
        exact .tup h2 s2
      · have e' := s2.nil_iff.mp e
        refine hQ _ _ H hm.2 (Bx.refl _ _) ?_
        rw [e', List.append_nil]
        exact .tup h1 s1
    | _ => exact (show False from hm).elim
  | _ => exact (show False from hm).elim
def subF (x y : D) (Q : D → Prop) : Prop := match x, y with
  | .int i, .int j => Q (.int (i - j))
  | _, _ => False
theorem opd_i0 {g : Int → Int → V} {f : D → D → MD} (h : ∀ (dx dy : D) (Qd : D → Prop), f dx dy Qd → ∃ i j d, dx = .int i ∧ dy = .int j ∧ (∀ B H, Dt G B H (g i j) d) ∧ Qd d) : OpD G (rI0 g) f := by
  intro B H x y dx dy ok hx hy Qd Q hQ hm
  obtain ⟨i, j, d, rfl, rfl, hd, q⟩ := h _ _ _ hm
  cases hx
  cases hy
  exact ⟨i, j, rfl, rfl, hQ _ _ H q (Bx.refl _ _) (hd B H)⟩
theorem opd_i {C : Int → Int → Prop} {g : Int → Int → V} {f : D → D → MD} (h : ∀ (dx dy : D) (Qd : D → Prop), f dx dy Qd → ∃ i j d, dx = .int i ∧ dy = .int j ∧ C i j ∧ (∀ B H, Dt G B H (g i j) d) ∧ Qd d) : OpD G (rI C g) f := by
  intro B H x y dx dy ok hx hy Qd Q hQ hm
  obtain ⟨i, j, d, rfl, rfl, c, hd, q⟩ := h _ _ _ hm
  cases hx
  cases hy
  exact ⟨i, j, rfl, rfl, c, hQ _ _ H q (Bx.refl _ _) (hd B H)⟩
theorem opd_sub : OpD G (rI0 fun i j => .int (i - j)) subF := opd_i0 fun dx dy Qd h => by
  cases dx <;> cases dy <;> first
    | exact ⟨_, _, _, rfl, rfl, fun _ _ => .int _, h⟩
    | exact (show False from h).elim
def modF (x y : D) (Q : D → Prop) : Prop := match x, y with
  | .int i, .int j => 0 < j ∧ Q (.int (i % j))
  | _, _ => False
theorem opd_mod : OpD G (rI (fun _ j => 0 < j) fun i j => .int (i % j)) modF := opd_i fun dx dy Qd h => by
  cases dx <;> cases dy <;> first
    | exact ⟨_, _, _, rfl, rfl, h.1, fun _ _ => .int _, h.2⟩
    | exact (show False from h).elim
def divF (x y : D) (Q : D → Prop) : Prop := match x, y with
  | .int i, .int j => (0 < j ∧ j.natAbs.log2 < 9000) ∧ Q (.int (i / j))
  | _, _ => False
theorem opd_div : OpD G (rI CDivW fun i j => .int (i / j)) divF := opd_i fun dx dy Qd h => by
  cases dx <;> cases dy <;> first
    | exact ⟨_, _, _, rfl, rfl, h.1, fun _ _ => .int _, h.2⟩
    | exact (show False from h).elim
def repS (x : Str) (n : Nat) : Str := ⟨((List.replicate n x.cps.toList).flatten).toArray⟩
def mulF (x y : D) (Q : D → Prop) : Prop := match x, y with
  | .int i, .int j => i.natAbs.log2 + j.natAbs.log2 < 1000000 ∧ Q (.int (i * j))
  | .str a, .int n => (0 ≤ n ∧ n ≤ 10000 ∧ a.length ≤ 1000) ∧ Q (.str (repS a n.toNat))
  | .lst xs, .int n => (0 ≤ n ∧ n ≤ 10000 ∧ xs.length ≤ 1000) ∧ Q (.lst (List.replicate n.toNat xs).flatten)
  | _, _ => False
def rMulS : R2 := fun x y H Q => ∃ (a : Str) (n : Int), x = .str a ∧ y = .int n ∧ (0 ≤ n ∧ n ≤ 10000 ∧ a.length ≤ 1000) ∧ Q (.str (repS a n.toNat)) H
theorem fold_rep (a : Array Nat) : ∀ (n : Nat) (acc : Array Nat), ((List.replicate n a).foldl (· ++ ·) acc) = acc ++ ((List.replicate n a.toList).flatten).toArray
  | 0, acc => by simp
  | n + 1, acc => by
    rw [List.replicate_succ, List.foldl_cons, fold_rep a n, List.replicate_succ, List.flatten_cons]
    apply Array.ext'
    simp
theorem flat_len {α : Type} (l : List α) : ∀ n, (List.replicate n l).flatten.length = n * l.length
  | 0 => by simp
  | n + 1 => by rw [List.replicate_succ, List.flatten_cons, List.length_append, flat_len l n, Nat.succ_mul]; omega
theorem op_mulS {X : Cx} : OpR X (binaryOp .Mult) rMulS := by
  intro pins s σ H x y v u Q I rx ry h
  obtain ⟨a, n, rfl, rfl, ⟨h0, h1, h2⟩, q⟩ := h
  obtain ⟨t, rfl⟩ := rx
  obtain ⟨t', rfl⟩ := ry
  have hlen : a.length * n.toNat ≤ 10000000 := by
    have e1 : n.toNat ≤ 10000 := by omega
    calc a.length * n.toNat ≤ 1000 * 10000 := Nat.mul_le_mul h2 e1
      _ = 10000000 := by decide
  have done : ∀ tk, EP X pins σ Q (.str (repS a n.toNat) tk) { s with toks := s.toks + 1 } := fun tk => ⟨.str _, H, I.tok _, ⟨_, rfl⟩, q⟩
  refine PySem.P.mul_str ?_ (fun hn hb => ?_) (fun hn hb => ?_) ?_
  · rw [decide_eq_false (by omega), decide_eq_false (by omega)]; rfl
  · intro z
    have e1 : (2 ^ 63 - 1 : Int) / n ≥ (2 ^ 63 - 1) / 10000 := by
      have hp : 0 < n := by omega
      exact Int.le_ediv_of_mul_le hp (by omega)
    omega
  · unfold PySem.Builtin.Str.tooLong
    simp only [decide_eq_false_iff_not]
    have := sizeLine_eq
    omega
  · by_cases hn : n < 1
    · rw [if_pos hn]
      have e : n.toNat = 0 := by omega
      have e2 : repS a n.toNat = Str.empty := by rw [e]; rfl
      exact ⟨by decide, by rw [← e2]; exact done _⟩
    · rw [if_neg hn]
      by_cases hb : (n == 1 || a.length == 0) = true
      · rw [if_pos hb]
        have e2 : repS a n.toNat = a := by
          rcases Bool.or_eq_true_iff.mp hb with e | e
          · have : n = 1 := by simpa using e
            subst this
            unfold repS; simp
          · have e' : a.cps.size = 0 := by simpa [Str.length] using e
            have e3 : a.cps = #[] := Array.eq_empty_of_size_eq_zero e'
            unfold repS
            cases a
            simp only at e3
            subst e3
            simp
        show EP X pins σ Q (.str a t) s
        rw [e2] at q
        exact ⟨.str _, H, I, ⟨_, rfl⟩, q⟩
      · rw [if_neg hb]
        have e2 : (⟨(List.replicate n.toNat a.cps).foldl (· ++ ·) #[]⟩ : Str) = repS a n.toNat := by
          rw [fold_rep]
          unfold repS
          congr 1
          simp
        rw [e2]
        refine ⟨?_, done _⟩
        have := flat_len a.cps.toList n.toNat
        have e4 : (repS a n.toNat).length = n.toNat * a.length := by simp [repS, Str.length, flat_len]
        have := sizeLine_eq
        have e5 : n.toNat * a.length = a.length * n.toNat := Nat.mul_comm _ _
        omega
def rMulU : R2 := fun x y H Q => rI CMulW (fun i j => .int (i * j)) x y H Q ∨ (rMulS x y H Q ∨ rRep x y H Q)
theorem op_mulU {X : Cx} : OpR X (binaryOp .Mult) rMulU := op_mulW.or (op_mulS.or op_rep)
theorem opd_mul : OpD G rMulU mulF := by
  intro B H x y dx dy ok hx hy Qd Q hQ hm
  cases hx with
  | int i =>
    cases hy with
    | int j => exact .inl ⟨i, j, rfl, rfl, hm.1, hQ _ _ H hm.2 (Bx.refl _ _) (.int _)⟩
    | _ => exact (show False from hm).elim
  | str i =>
    cases hy with
    | int j => exact .inr (.inl ⟨i, j, rfl, rfl, hm.1, hQ _ _ H hm.2 (Bx.refl _ _) (.str _)⟩)
    | _ => exact (show False from hm).elim
  | lst h1 n1 s1 =>
    cases hy with
    | int j =>
      obtain ⟨⟨h0, hj, hl⟩, q⟩ := hm
      refine .inr (.inr ⟨_, j, _, rfl, rfl, h1, by omega, by omega, ?_, fun p hp => hQ _ _ _ q (Bx.new hp) (dt_newL ok hp (s1.rep _))⟩)
      have e1 : j.toNat ≤ 10000 := by omega
      have e2 := s1.length
      rw [sizeLine_eq]
      calc _ ≤ 1000 * 10000 := Nat.mul_le_mul (by omega) e1
        _ ≤ 16777216 := by decide
    | _ => exact (show False from hm).elim
  | _ => exact (show False from hm).elim

/-! ### comparisons -/
def ltF (x y : D) (Q : D → Prop) : Prop := match x, y with
  | .int i, .int j => Q (.bl (decide (i < j)))
  | _, _ => False
def leF (x y : D) (Q : D → Prop) : Prop := match x, y with
  | .int i, .int j => Q (.bl (decide (i ≤ j)))
  | _, _ => False
def gtF (x y : D) (Q : D → Prop) : Prop := match x, y with
  | .int i, .int j => Q (.bl (decide (j < i)))
  | _, _ => False
def geF (x y : D) (Q : D → Prop) : Prop := match x, y with
  | .int i, .int j => Q (.bl (decide (j ≤ i)))
  | _, _ => False
theorem opd_lt : OpD G (rI0 fun i j => .bl (decide (i < j))) ltF := opd_i0 fun dx dy Qd h => by
  cases dx <;> cases dy <;> first
    | exact ⟨_, _, _, rfl, rfl, fun _ _ => .bl _, h⟩
    | exact (show False from h).elim
theorem opd_le : OpD G (rI0 fun i j => .bl (decide (i ≤ j))) leF := opd_i0 fun dx dy Qd h => by
  cases dx <;> cases dy <;> first
    | exact ⟨_, _, _, rfl, rfl, fun _ _ => .bl _, h⟩
    | exact (show False from h).elim
theorem opd_gt : OpD G (rI0 fun i j => .bl (decide (j < i))) gtF := opd_i0 fun dx dy Qd h => by
  cases dx <;> cases dy <;> first
    | exact ⟨_, _, _, rfl, rfl, fun _ _ => .bl _, h⟩
    | exact (show False from h).elim
theorem opd_ge : OpD G (rI0 fun i j => .bl (decide (j ≤ i))) geF := opd_i0 fun dx dy Qd h => by
  cases dx <;> cases dy <;> first
    | exact ⟨_, _, _, rfl, rfl, fun _ _ => .bl _, h⟩
    | exact (show False from h).elim
/-- a sign in a text -/
def rInC : R2 := fun x y H Q => ∃ (c : Nat) (z : Str), x = .str ⟨#[c]⟩ ∧ y = .str z ∧ Q (.bl (decide (c ∈ z.cps.toList))) H
def rNiC : R2 := fun x y H Q => ∃ (c : Nat) (z : Str), x = .str ⟨#[c]⟩ ∧ y = .str z ∧ Q (.bl (!decide (c ∈ z.cps.toList))) H
theorem op_inC {X : Cx} : OpR X (compareOp .In) rInC := op_in_sign
theorem op_niC {X : Cx} : OpR X (compareOp .NotIn) rNiC := op_notIn_sign
def inCF (x y : D) (Q : D → Prop) : Prop := ∃ (c : Nat) (z : Str), x = .str ⟨#[c]⟩ ∧ y = .str z ∧ Q (.bl (decide (c ∈ z.cps.toList)))
def niCF (x y : D) (Q : D → Prop) : Prop := ∃ (c : Nat) (z : Str), x = .str ⟨#[c]⟩ ∧ y = .str z ∧ Q (.bl (!decide (c ∈ z.cps.toList)))
theorem opd_inC : OpD G rInC inCF := by
  intro B H x y dx dy ok hx hy Qd Q hQ hm
  obtain ⟨c, z, rfl, rfl, q⟩ := hm
  cases hx; cases hy
  exact ⟨c, z, rfl, rfl, hQ _ _ H q (Bx.refl _ _) (.bl _)⟩
theorem opd_niC : OpD G rNiC niCF := by
  intro B H x y dx dy ok hx hy Qd Q hQ hm
  obtain ⟨c, z, rfl, rfl, q⟩ := hm
  cases hx; cases hy
  exact ⟨c, z, rfl, rfl, hQ _ _ H q (Bx.refl _ _) (.bl _)⟩
/-- is None, is True -/
def isNone : D → Bool
  | .non => true
  | _ => false
def isF (x y : D) (Q : D → Prop) : Prop := match y with
  | .non => Q (.bl (isNone x))
  | .bl b => (match x with
    | .bl a => Q (.bl (decide (a = b)))
    | _ => False)
  | _ => False
def notF (x y : D) (Q : D → Prop) : Prop := match y with
  | .non => Q (.bl (!isNone x))
  | .bl b => (match x with
    | .bl a => Q (.bl (!decide (a = b)))
    | _ => False)
  | _ => False
def rIsU : R2 := fun x y H Q => rIsN x y H Q ∨ rIsB x y H Q
def rNotU : R2 := fun x y H Q => rNotN x y H Q ∨ rNotB x y H Q
theorem op_isU {X : Cx} : OpR X (compareOp .Is) rIsU := op_isN1.or op_isBl
theorem op_notU {X : Cx} : OpR X (compareOp .IsNot) rNotU := op_notN1.or op_notBl
theorem isNone_dt {B H} {v : V} {d : D} (h : Dt G B H v d) : decide (v = .non) = isNone d := by
  cases h <;> simp [isNone]
theorem opd_is : OpD G rIsU isF := by
  intro B H x y dx dy ok hx hy Qd Q hQ hm
  cases hy with
  | non => exact .inl ⟨rfl, by rw [isNone_dt hx]; exact hQ _ _ H hm (Bx.refl _ _) (.bl _)⟩
  | bl b =>
    cases hx with
    | bl a => exact .inr ⟨a, b, rfl, rfl, hQ _ _ H hm (Bx.refl _ _) (.bl _)⟩
    | _ => exact (show False from hm).elim
  | _ => exact (show False from hm).elim
theorem opd_not : OpD G rNotU notF := by
  intro B H x y dx dy ok hx hy Qd Q hQ hm
  cases hy with
  | non => exact .inl ⟨rfl, by rw [isNone_dt hx]; exact hQ _ _ H hm (Bx.refl _ _) (.bl _)⟩
  | bl b =>
    cases hx with
    | bl a => exact .inr ⟨a, b, rfl, rfl, hQ _ _ H hm (Bx.refl _ _) (.bl _)⟩
    | _ => exact (show False from hm).elim
  | _ => exact (show False from hm).elim

/-! ### items, slices -/
def someD {α : Type} (o : Option α) (Q : α → Prop) : Prop := match o with
  | some d => Q d
  | none => False
def ixF (x y : D) (Q : D → Prop) : Prop := match x, y with
  | .lst xs, .int i => someD (atI xs i) Q
  | .tup xs, .int i => someD (atI xs i) Q
  | .str z, .int i => z.length ≤ sizeLine ∧ someD (atI z.cps.toList i) fun c => Q (.str ⟨#[c]⟩)
  | _, _ => False
theorem Dts.atI {B H} {vs : List V} {ds : List D} {i : Int} {d : D} (h : Dts G B H vs ds) (e : L2.atI ds i = some d) : ∃ v, L2.atI vs i = some v ∧ Dt G B H v d := by
  unfold L2.atI at e ⊢
  rw [h.length]
  cases q : ixN ds.length i with
  | none => rw [q] at e; cases e
  | some j =>
    rw [q] at e
    exact h.get e
theorem someD_inv {α : Type} {o : Option α} {Q : α → Prop} (h : someD o Q) : ∃ d, o = some d ∧ Q d := by
  cases o with
  | none => exact (show False from h).elim
  | some d => exact ⟨d, rfl, h⟩
theorem opd_ix : OpD G (rIx G.K) ixF := by
  intro B H x y dx dy ok hx hy Qd Q hQ hm
  cases hx with
  | lst h1 n1 s1 =>
    cases hy with
    | int i =>
      obtain ⟨d, e, q⟩ := someD_inv hm
      obtain ⟨v, e1, hv⟩ := s1.atI e
      exact .inl ⟨_, _, i, v, rfl, rfl, .inl (.inl h1), e1, hQ _ _ H q (Bx.refl _ _) hv⟩
    | _ => exact (show False from hm).elim
  | tup h1 s1 =>
    cases hy with
    | int i =>
      obtain ⟨d, e, q⟩ := someD_inv hm
      obtain ⟨v, e1, hv⟩ := s1.atI e
      exact .inr (.inl ⟨_, _, i, v, rfl, rfl, h1.sq, e1, hQ _ _ H q (Bx.refl _ _) hv⟩)
    | _ => exact (show False from hm).elim
  | str z =>
    cases hy with
    | int i =>
      obtain ⟨c, e, q⟩ := someD_inv hm.2
      exact .inr (.inr ⟨z, i, c, rfl, rfl, hm.1, e, hQ _ _ H q (Bx.refl _ _) (.str _)⟩)
    | _ => exact (show False from hm).elim
  | _ => exact (show False from hm).elim
def cutD (xs : List D) (lo hi : Option Int) : List D := (xs.drop (HT.sIx xs.length 0 lo)).take (HT.sIx xs.length xs.length hi - HT.sIx xs.length 0 lo)
def slF (x : D) (lo hi : Option Int) (Q : D → Prop) : Prop := match x with
  | .lst xs => Q (.lst (cutD xs lo hi))
  | .tup xs => Q (.tup (cutD xs lo hi))
  | .str z => z.length ≤ sizeLine ∧ Q (.str (Txt.slice z lo hi))
  | _ => False
def rSlU (K : PySem.W.Frag) : V → Option Int → Option Int → Hp → VK → Prop := fun x lo hi H Q => rSlL K x lo hi H Q ∨ (rSlA K x lo hi H Q ∨ C8.rSlX x lo hi H Q)
theorem sl_U {X : Cx} : SlR X (rSlU X.K) := sl_list.or (sl_tupA.or C8.sl_txt)
theorem Dts.cut {B H} {vs : List V} {ds : List D} (h : Dts G B H vs ds) (lo hi : Option Int) : Dts G B H (cutV vs lo hi) (cutD ds lo hi) := by
  unfold cutV cutD
  rw [h.length]
  exact (h.drop _).take _
theorem sld_U : SlD G (rSlU G.K) slF := by
  intro B H x dx lo hi ok hx Qd Q hQ hm
  cases hx with
  | lst h1 n1 s1 => exact .inl ⟨_, _, rfl, .inl (.inl h1), fun p hp => hQ _ _ _ hm (Bx.new hp) (dt_newL ok hp (s1.cut lo hi))⟩
  | tup h1 s1 =>
    refine .inr (.inl ⟨_, _, rfl, h1.sq, fun e => ?_, fun _ p hp => hQ _ _ _ hm (Bx.new hp) (dt_newT ok hp (s1.cut lo hi))⟩)
    refine hQ _ _ H hm (Bx.refl _ _) ?_
    rw [s1.length] at e
    have e2 : ∀ ds : List D, HT.sIx ds.length 0 lo = 0 ∧ HT.sIx ds.length ds.length hi = ds.length → cutD ds lo hi = ds := fun ds e => by
      unfold cutD
      rw [e.1, e.2]; simp
    rw [e2 _ e]
    exact .tup h1 s1
  | str z => exact .inr (.inr ⟨z, rfl, hm.1, hQ _ _ H hm.2 (Bx.refl _ _) (.str _)⟩)
  | _ => exact (show False from hm).elim

/-! ### built-in functions -/
theorem Dts.one {B H} {vs : List V} {d : D} (h : Dts G B H vs [d]) : ∃ v, vs = [v] ∧ Dt G B H v d := by
  cases h with
  | cons a t => cases t; exact ⟨_, rfl, a⟩
theorem Dts.two {B H} {vs : List V} {d e : D} (h : Dts G B H vs [d, e]) : ∃ v w, vs = [v, w] ∧ Dt G B H v d ∧ Dt G B H w e := by
  cases h with
  | cons a t =>
    obtain ⟨w, rfl, hw⟩ := t.one
    exact ⟨_, w, rfl, a, hw⟩
def lenF (ds : List D) (Q : D → Prop) : Prop := match ds with
  | [.lst xs] => Q (.int xs.length)
  | [.tup xs] => Q (.int xs.length)
  | [.str z] => z.length ≤ sizeLine ∧ Q (.int z.length)
  | _ => False
def rLenQ (K : PySem.W.Frag) : List V → Hp → VK → Prop := fun xs H Q => ∃ p ys, xs = [.ref p] ∧ (SqL K H p ys ∨ SqT K H p ys) ∧ Q (.int ys.length) H
def rLenZ : List V → Hp → VK → Prop := fun xs H Q => ∃ z, xs = [.str z] ∧ z.length ≤ sizeLine ∧ Q (.int z.length) H
def rLenU (K : PySem.W.Frag) : List V → Hp → VK → Prop := fun xs H Q => rLenQ K xs H Q ∨ rLenZ xs H Q
theorem call_lenU {X : Cx} : CallR X (.builtin "len") (rLenU X.K) := CallR.or (r := rLenQ X.K) (r' := rLenZ) call_len_seq call_len_str
theorem calld_len : CallD G (rLenU G.K) lenF := by
  intro B H x dx ok hx Qd Q hQ hm
  unfold lenF at hm
  split at hm
  · obtain ⟨v, rfl, hv⟩ := hx.one
    cases hv with
    | lst h1 n1 s1 => exact .inl ⟨_, _, rfl, .inl (.inl (.inl h1)), by rw [s1.length]; exact hQ _ _ H hm (Bx.refl _ _) (.int _)⟩
  · obtain ⟨v, rfl, hv⟩ := hx.one
    cases hv with
    | tup h1 s1 => exact .inl ⟨_, _, rfl, .inr h1.sq, by rw [s1.length]; exact hQ _ _ H hm (Bx.refl _ _) (.int _)⟩
  · obtain ⟨v, rfl, hv⟩ := hx.one
    cases hv with
    | str z => exact .inr ⟨_, rfl, hm.1, hQ _ _ H hm.2 (Bx.refl _ _) (.int _)⟩
  · exact hm.elim
def intF (ds : List D) (Q : D → Prop) : Prop := match ds with
  | [.int i] => Q (.int i)
  | [.bl b] => Q (.int (if b then 1 else 0))
  | _ => False
def rInt1 : List V → Hp → VK → Prop := fun xs H Q => (∃ i, xs = [.int i] ∧ Q (.int i) H) ∨ ∃ k, xs = [.bl k] ∧ Q (.int (if k then 1 else 0)) H
theorem call_int1' {X : Cx} : CallR X (.type "int") rInt1 := call_int1
theorem calld_int : CallD G rInt1 intF := by
  intro B H x dx ok hx Qd Q hQ hm
  unfold intF at hm
  split at hm
  · obtain ⟨v, rfl, hv⟩ := hx.one
    cases hv
    exact .inl ⟨_, rfl, hQ _ _ H hm (Bx.refl _ _) (.int _)⟩
  · obtain ⟨v, rfl, hv⟩ := hx.one
    cases hv
    exact .inr ⟨_, rfl, hQ _ _ H hm (Bx.refl _ _) (.int _)⟩
  · exact hm.elim
def tupF (ds : List D) (Q : D → Prop) : Prop := match ds with
  | [.lst xs] => Q (.tup xs)
  | [.tup xs] => Q (.tup xs)
  | _ => False
def rTupU (K : PySem.W.Frag) : List V → Hp → VK → Prop := fun xs H Q => ∃ p ys, xs = [.ref p] ∧ ((SqL K H p ys ∧ ∀ l, H l = none → Q (.ref l) (upd H l (.tup ys))) ∨ (SqT K H p ys ∧ Q (.ref p) H))
theorem call_tupU {X : Cx} : CallR X (.type "tuple") (rTupU X.K) := call_tuple_of
theorem calld_tup : CallD G (rTupU G.K) tupF := by
  intro B H x dx ok hx Qd Q hQ hm
  unfold tupF at hm
  split at hm
  · obtain ⟨v, rfl, hv⟩ := hx.one
    cases hv with
    | lst h1 n1 s1 => exact ⟨_, _, rfl, .inl ⟨.inl (.inl h1), fun p hp => hQ _ _ _ hm (Bx.new hp) (dt_newT ok hp s1)⟩⟩
  · obtain ⟨v, rfl, hv⟩ := hx.one
    cases hv with
    | tup h1 s1 => exact ⟨_, _, rfl, .inr ⟨h1.sq, hQ _ _ H hm (Bx.refl _ _) (.tup h1 s1)⟩⟩
  · exact hm.elim
def lstF (ds : List D) (Q : D → Prop) : Prop := match ds with
  | [.lst xs] => Q (.lst xs)
  | [.tup xs] => Q (.lst xs)
  | _ => False
def rLstU (K : PySem.W.Frag) : List V → Hp → VK → Prop := fun xs H Q => ∃ p ys, xs = [.ref p] ∧ (SqL K H p ys ∨ SqT K H p ys) ∧ ∀ l, H l = none → Q (.ref l) (upd H l (.lst ys))
theorem call_lstU {X : Cx} : CallR X (.type "list") (rLstU X.K) := call_list_of
theorem calld_lst : CallD G (rLstU G.K) lstF := by
  intro B H x dx ok hx Qd Q hQ hm
  unfold lstF at hm
  split at hm
  · obtain ⟨v, rfl, hv⟩ := hx.one
    cases hv with
    | lst h1 n1 s1 => exact ⟨_, _, rfl, .inl (.inl (.inl h1)), fun p hp => hQ _ _ _ hm (Bx.new hp) (dt_newL ok hp s1)⟩
  · obtain ⟨v, rfl, hv⟩ := hx.one
    cases hv with
    | tup h1 s1 => exact ⟨_, _, rfl, .inr h1.sq, fun p hp => hQ _ _ _ hm (Bx.new hp) (dt_newL ok hp s1)⟩
  · exact hm.elim
/-- all, any of a list of truths -/
def blsOf : List D → Option (List Bool)
  | [] => some []
  | .bl b :: r => (blsOf r).map (b :: ·)
  | _ => none
theorem blsOf_inv : ∀ {ds : List D} {bs : List Bool}, blsOf ds = some bs → ds = bs.map D.bl
  | [], bs, h => by cases h; rfl
  | d :: ds, bs, h => by
    cases d with
    | bl b =>
      unfold blsOf at h
      cases e : blsOf ds with
      | none => rw [e] at h; cases h
      | some cs =>
        rw [e] at h
        have h' : b :: cs = bs := Option.some.inj h
        subst h'
        rw [blsOf_inv e]; rfl
    | _ => cases h
theorem blsOf_map (bs : List Bool) : blsOf (bs.map D.bl) = some bs := by
  induction bs with
  | nil => rfl
  | cons b bs ih => show (blsOf (bs.map D.bl)).map (b :: ·) = _; rw [ih]; rfl
def allF (ds : List D) (Q : D → Prop) : Prop := match ds with
  | [.lst xs] => someD (blsOf xs) fun bs => Q (.bl (bs.all id))
  | _ => False
def anyF (ds : List D) (Q : D → Prop) : Prop := match ds with
  | [.lst xs] => someD (blsOf xs) fun bs => Q (.bl (bs.any id))
  | _ => False
theorem calld_all : CallD G (rAll G.K) allF := by
  intro B H x dx ok hx Qd Q hQ hm
  unfold allF at hm
  split at hm
  · obtain ⟨v, rfl, hv⟩ := hx.one
    obtain ⟨bs, e, q⟩ := someD_inv hm
    cases hv with
    | lst h1 n1 s1 =>
      rw [blsOf_inv e] at s1
      have e2 := s1.bls
      subst e2
      exact ⟨_, bs, rfl, .inl (.inl h1), hQ _ _ H q (Bx.refl _ _) (.bl _)⟩
  · exact hm.elim
theorem calld_any : CallD G (rAny G.K) anyF := by
  intro B H x dx ok hx Qd Q hQ hm
  unfold anyF at hm
  split at hm
  · obtain ⟨v, rfl, hv⟩ := hx.one
    obtain ⟨bs, e, q⟩ := someD_inv hm
    cases hv with
    | lst h1 n1 s1 =>
      rw [blsOf_inv e] at s1
      have e2 := s1.bls
      subst e2
      exact ⟨_, bs, rfl, .inl (.inl h1), hQ _ _ H q (Bx.refl _ _) (.bl _)⟩
  · exact hm.elim
/-- isinstance of built-in kinds -/
def tyN : D → Option String
  | .non => some "NoneType"
  | .bl _ => some "bool"
  | .int _ => some "int"
  | .str _ => some "str"
  | .tup _ => some "tuple"
  | .lst _ => some "list"
  | .dic _ => some "dict"
  | _ => none
theorem tyX_of {B H} {v : V} {d : D} {n : String} (h : Dt G B H v d) (e : tyN d = some n) : TyX G.K H v (.type n) := by
  cases h with
  | non => cases e; exact .base .non
  | bl b => cases e; exact .base (.bl b)
  | int b => cases e; exact .base (.int b)
  | str b => cases e; exact .base (.str b)
  | tup h1 s1 =>
    cases e
    rcases h1 with ⟨h1, _⟩ | h1
    · exact .base (.tup h1)
    · rcases h1 with (h1 | ⟨_, h1⟩) | ⟨o, its, m, h1, h2, _⟩
      · cases h1
      · cases h1
      · exact .kTuple h1 h2
  | lst h1 n1 s1 => cases e; exact .base (.lst h1)
  | dic h1 n1 s1 => cases e; exact .base (.dK h1)
  | _ => cases e
def isiF (ds : List D) (Q : D → Prop) : Prop := match ds with
  | [d, .ty n] => someD (tyN d) fun m => someD (kitB m n) fun b => Q (.bl b)
  | _ => False
theorem calld_isi : CallD G (rIsi G.K) isiF := by
  intro B H x dx ok hx Qd Q hQ hm
  unfold isiF at hm
  split at hm
  · obtain ⟨v, w, rfl, hv, hw⟩ := hx.two
    obtain ⟨m, e, q⟩ := someD_inv hm
    obtain ⟨b, e2, q⟩ := someD_inv q
    cases hw
    exact ⟨v, _, _, _, b, rfl, .ty _, tyX_of hv e, kit_ty e2, hQ _ _ H q (Bx.refl _ _) (.bl _)⟩
  · exact hm.elim
/-- texts -/
def strsOf : List D → Option (List Str)
  | [] => some []
  | .str b :: r => (strsOf r).map (b :: ·)
  | _ => none
theorem strsOf_inv : ∀ {ds : List D} {bs : List Str}, strsOf ds = some bs → ds = bs.map D.str
  | [], bs, h => by cases h; rfl
  | d :: ds, bs, h => by
    cases d with
    | str b =>
      unfold strsOf at h
      cases e : strsOf ds with
      | none => rw [e] at h; cases h
      | some cs =>
        rw [e] at h
        have h' : b :: cs = bs := Option.some.inj h
        subst h'
        rw [strsOf_inv e]; rfl
    | _ => cases h
theorem strsOf_map (bs : List Str) : strsOf (bs.map D.str) = some bs := by
  induction bs with
  | nil => rfl
  | cons b bs ih => show (strsOf (bs.map D.str)).map (b :: ·) = _; rw [ih]; rfl
def joinF (x y : D) (Q : D → Prop) : Prop := match x, y with
  | .str a, .lst ds => someD (strsOf ds) fun ys => (ys.map (·.length)).sum + ys.length * a.length ≤ 16777216 ∧ Q (.str (Txt.join a ys))
  | _, _ => False
def rJoin (K : PySem.W.Frag) : V → List V → Hp → VK → Prop := fun x xs H Q => ∃ a p, ∃ ys : List Str, x = .str a ∧ xs = [.ref p] ∧ (SqL K H p (ys.map V.str) ∨ SqT K H p (ys.map V.str)) ∧
    (ys.map (·.length)).sum + ys.length * a.length ≤ 16777216 ∧ Q (.str (Txt.join a ys)) H
theorem opd_join : OpD G (fun x y H Q => rJoin G.K x [y] H Q) joinF := by
  intro B H x y dx dy ok hx hy Qd Q hQ hm
  unfold joinF at hm
  split at hm
  · obtain ⟨ys, e, hz, q⟩ := someD_inv hm
    cases hx
    cases hy with
    | lst h1 n1 s1 =>
      rw [strsOf_inv e] at s1
      have e2 := s1.strs
      subst e2
      exact ⟨_, _, ys, rfl, rfl, .inl (.inl (.inl h1)), hz, hQ _ _ H q (Bx.refl _ _) (.str _)⟩
  · exact hm.elim
def splitF (x y : D) (Q : D → Prop) : Prop := match x, y with
  | .str a, .str b => (b.length == 0) = false ∧ a.length + 2 ≤ sizeLine ∧ Q (.lst ((Txt.split a b).map D.str))
  | _, _ => False
def rSplit : V → List V → Hp → VK → Prop := fun x xs H Q => ∃ a b, x = .str a ∧ xs = [.str b] ∧ (b.length == 0) = false ∧ a.length + 2 ≤ sizeLine ∧ rNewStrs (Txt.split a b) H Q
theorem opd_split : OpD G (fun x y H Q => rSplit x [y] H Q) splitF := by
  intro B H x y dx dy ok hx hy Qd Q hQ hm
  unfold splitF at hm
  split at hm
  · cases hx
    cases hy
    exact ⟨_, _, rfl, rfl, hm.1, hm.2.1, fun p hp => hQ _ _ _ hm.2.2 (Bx.new hp) (dt_newL ok hp (Dts.ofStrs _))⟩
  · exact hm.elim
/-- -i -/
def negF (x : D) (Q : D → Prop) : Prop := match x with
  | .int i => Q (.int (-i))
  | _ => False
theorem und_neg : UnD G (rU fun i => .int (-i)) negF := by
  intro B H x dx ok hx Qd Q hQ hm
  cases hx with
  | int i => exact ⟨i, rfl, hQ _ _ H hm (Bx.refl _ _) (.int _)⟩
  | _ => exact (show False from hm).elim
def absF (ds : List D) (Q : D → Prop) : Prop := match ds with
  | [.int i] => Q (.int (if i < 0 then -i else i))
  | _ => False
def rAbs : List V → Hp → VK → Prop := fun xs H Q => ∃ i, xs = [.int i] ∧ Q (.int (if i < 0 then -i else i)) H
theorem calld_abs : CallD G rAbs absF := by
  intro B H x dx ok hx Qd Q hQ hm
  unfold absF at hm
  split at hm
  · obtain ⟨v, rfl, hv⟩ := hx.one
    cases hv
    exact ⟨_, rfl, hQ _ _ H hm (Bx.refl _ _) (.int _)⟩
  · exact hm.elim

/-! ### repr -/
def rRepr (K : PySem.W.Frag) : List V → Hp → VK → Prop := fun xs H Q => ∃ (x : V) (d : PyData), xs = [x] ∧ Dp K H x d ∧ d.showable = true ∧ d.depth ≤ 60 ∧ d.shown.length ≤ sizeLine ∧ Q (.str d.shown) H
theorem Dp.noDict {K H} : ∀ (d : PyData) (v : V), Dp K H v d → d.hasDict = false := fun d v h => by
  have : ∀ n, ∀ (d : PyData) (v : V), sizeOf d ≤ n → Dp K H v d → d.hasDict = false := by
    intro n
    induction n with
    | zero => intro d v hz; cases d <;> simp at hz
    | succ n ih =>
      intro d v hz h
      have all : ∀ (ds : List PyData) (vs : List V), sizeOf ds ≤ n → DpAll K H vs ds → PyData.hasDictAll ds = false := by
        intro ds
        induction ds with
        | nil => intro vs _ _; rfl
        | cons e es ih2 =>
          intro vs hz2 h2
          cases h2 with
          | cons a t =>
            simp only [List.cons.sizeOf_spec] at hz2
            simp only [PyData.hasDictAll, ih e _ (by omega) a, ih2 _ (by omega) t, Bool.or_self]
      cases h with
      | non => rfl
      | bl b => rfl
      | int b => rfl
      | str b => rfl
      | lst h1 h2 => simp only [PyData.list.sizeOf_spec] at hz; simp only [PyData.hasDict]; exact all _ _ (by omega) h2
      | tup h1 h2 => simp only [PyData.tuple.sizeOf_spec] at hz; simp only [PyData.hasDict]; exact all _ _ (by omega) h2
  exact this _ d v (Nat.le_refl _) h
theorem call_repr {X : Cx} {k : Nat} (hg : X.A.guards = some []) (hr : Room k X.A) : CallR X (.builtin "repr") (rRepr X.K) := by
  intro pins s σ H xs us Q I r h
  obtain ⟨x, d, rfl, hd, hs, hdep, hz, q⟩ := h
  obtain ⟨u, rfl, ru⟩ := Vals.one r
  obtain ⟨as, hr'⟩ := Dp.reads I d x u hd ru
  have hnd := Dp.noDict d x hd
  have hu : X.A.units + (d.depth + 1) < cLine := by have := hr.units; omega
  have fin : ∀ t tk, EP X pins σ Q (.str d.shown t) { s with toks := tk } := fun t tk => ⟨.str _, H, I.tok _, ⟨_, rfl⟩, q⟩
  cases hd with
  | non => cases ru; exact PySem.P.repr_of_none (by simpa [PyData.shown] using fin _ _)
  | bl b => cases ru; exact PySem.P.repr_of_bool (by simpa [PyData.shown] using fin _ _)
  | int i => obtain ⟨t, rfl⟩ := ru; exact PySem.P.repr_of_int (by simpa [PyData.showable] using hs) (by simpa [PyData.shown] using fin _ _)
  | str z => obtain ⟨t, rfl⟩ := ru; exact PySem.P.repr_of_str (by simpa [PyData.shown] using fin _ _) (by simpa [PyData.shown] using hz)
  | lst h1 h2 =>
    cases ru
    refine repr_of_reads' hr' hs (fun e => by rw [hnd] at e; cases e) hg hu (fun _ _ e => e) (fun h' t tk hk => ?_) hz
    exact ⟨.str _, H, I.kept hk, ⟨_, rfl⟩, q⟩
  | tup h1 h2 =>
    cases ru
    refine repr_of_reads' hr' hs (fun e => by rw [hnd] at e; cases e) hg hu (fun _ _ e => e) (fun h' t tk hk => ?_) hz
    exact ⟨.str _, H, I.kept hk, ⟨_, rfl⟩, q⟩
def reprF (ds : List D) (Q : D → Prop) : Prop := match ds with
  | [d] => (d.pl = true ∧ d.py.showable = true ∧ d.py.depth ≤ 60 ∧ d.py.shown.length ≤ sizeLine) ∧ Q (.str d.py.shown)
  | _ => False
theorem calld_repr : CallD G (rRepr G.K) reprF := by
  intro B H x dx ok hx Qd Q hQ hm
  unfold reprF at hm
  split at hm
  · obtain ⟨v, rfl, hv⟩ := hx.one
    obtain ⟨⟨h1, h2, h3, h4⟩, q⟩ := hm
    exact ⟨v, _, rfl, hv.dp h1, h2, h3, h4, hQ _ _ H q (Bx.refl _ _) (.str _)⟩
  · exact hm.elim
end
end Dz

namespace Dz
open PySem PySem.Spec PyProof.Rows L2

/-! ### statements -/
/-- what is wanted behind a statement, on data -/
structure Ed where
  nx : Rho → Prop
  rt : D → Prop
  bk : Rho → Prop := fun _ => False
  ct : Rho → Prop := fun _ => False
abbrev MS := Ed → Rho → Prop
def OwnNew (B0 : Bs) (H0 : Hp) (σ : L2.St) (ρ : Rho) : Prop := (∀ (i : Nat) (ds : List D) (a : Addr), ρ[i]? = some (Slot.own ds) → σ[i]? = some (some (V.ref a)) → H0 a = none ∧ a ∉ B0) ∧ ∀ a C fs, ρ[0]? = some (Slot.slf a C fs) → H0 a = none ∧ a ∉ B0
theorem OwnNew.keep {B0 : Bs} {H0 : Hp} {σ σ' : L2.St} {ρ ρ' : Rho} (h : OwnNew B0 H0 σ ρ) (k : KeepR σ ρ σ' ρ') : OwnNew B0 H0 σ' ρ' := ⟨fun i ds a e1 e2 => by
  obtain ⟨e3, e4⟩ := k.1 i ds e1
  exact h.1 i ds a e3 (e4.symm.trans e2), fun a C fs e => h.2 a C fs (k.2 a C fs e)⟩
/-- H0, B0: the heap and the places that may change, at the def's entry -/
structure Sg (G : Ga) (B0 : Bs) (H0 : Hp) (B : Bs) (H : Hp) (σ : L2.St) (ρ : Rho) : Prop where
  sta : Sta G B H σ ρ
  bx : Bx G.c H0 H
  up : ∀ a ∈ B0, a ∈ B
  fr : ∀ a ∈ B, a ∈ B0 ∨ H0 a = none
  own : OwnNew B0 H0 σ ρ
  bg : ∀ a ∈ G.c, a ∈ B0
structure Cov (G : Ga) (B0 : Bs) (H0 : Hp) (B : Bs) (H : Hp) (Z : Ed) (E : Ends) : Prop where
  nx : ∀ ρ σ B' H', Z.nx ρ → Sg G B0 H0 B' H' σ ρ → Tr B H B' H' → E.nx σ H'
  rt : ∀ d v H', Z.rt d → Bx G.c H0 H' → Ok G B0 H' → Dt G B0 H' v d → E.rt v H'
  bk : ∀ ρ σ B' H', Z.bk ρ → Sg G B0 H0 B' H' σ ρ → Tr B H B' H' → E.bk σ H'
  ct : ∀ ρ σ B' H', Z.ct ρ → Sg G B0 H0 B' H' σ ρ → Tr B H B' H' → E.ct σ H'
def EvS (G : Ga) (ts : TS) (ms : MS) : Prop := ∀ (B0 : Bs) (H0 : Hp) (B : Bs) (H : Hp) (σ : L2.St) (ρ : Rho), Sg G B0 H0 B H σ ρ → ∀ (Z : Ed) (E : Ends), Cov G B0 H0 B H Z E → ms Z ρ → ts E σ H
theorem Tr.refl (B : Bs) (H : Hp) : Tr B H B H := fun _ _ n e => ⟨n, e⟩
theorem Tr.trans {B B1 B2 : Bs} {H H1 H2 : Hp} (a : Tr B H B1 H1) (b : Tr B1 H1 B2 H2) : Tr B H B2 H2 := fun x o n e => let ⟨n1, e1⟩ := a x o n e; b x o n1 e1
theorem tr_of {C B : Bs} {H H' : Hp} (k : Bx C H H') (s : ∀ a ∈ C, a ∈ B) : Tr B H B H' := fun a o n e => ⟨n, k a o (fun z => n (s a z)) e⟩
section
variable {G : Ga} {B0 B B1 : Bs} {H0 H H' H1 : Hp} {σ : L2.St} {ρ : Rho} {te : TE} {me : ME} {tt : TT} {mt : MT} {t u : TS} {ms mu : MS} {Z : Ed} {E : Ends}
theorem Cov.from (C : Cov G B0 H0 B H Z E) (k : Tr B H B1 H1) : Cov G B0 H0 B1 H1 Z E :=
  ⟨fun ρ σ B' H' z s t => C.nx ρ σ B' H' z s (k.trans t), C.rt, fun ρ σ B' H' z s t => C.bk ρ σ B' H' z s (k.trans t), fun ρ σ B' H' z s t => C.ct ρ σ B' H' z s (k.trans t)⟩
theorem Sg.step (h : Sg G B0 H0 B H σ ρ) (k : Bx G.c H H') (ok : Ok G B H') : Sg G B0 H0 B H' σ ρ ∧ Tr B H B H' :=
  ⟨⟨h.sta.bx k ok, h.bx.trans k, h.up, h.fr, h.own, h.bg⟩, tr_of k h.sta.ok.sub⟩
theorem ok_less (h : Ok G B H) (h0 : ∀ a ∈ B0, a ∈ B) (hb : ∀ a ∈ G.c, a ∈ B0) : Ok G B0 H := h.less h0 hb
def sNext : MS := fun Z ρ => Z.nx ρ
def sSeq (a b : MS) : MS := fun Z ρ => a { Z with nx := fun ρ' => b Z ρ' } ρ
def sBrk : MS := fun Z ρ => Z.bk ρ
def sCont : MS := fun Z ρ => Z.ct ρ
def sDrop (m : ME) : MS := fun Z ρ => m ρ fun _ => Z.nx ρ
def sIf (c : MT) (a b : MS) : MS := fun Z ρ => c ρ fun k => if k = true then a Z ρ else b Z ρ
def sAsg (m : ME) (g : MG) : MS := fun Z ρ => m ρ fun d => g d ρ Z.nx
def two (ds : List D) (Q : D → D → Prop) : Prop := match ds with
  | [d, e] => Q d e
  | _ => False
def sPar (i j : Nat) (m : MA) : MS := fun Z ρ => m ρ fun ds => two ds fun d e => Z.nx ((ρ.set i (.val d)).set j (.val e))
def sRet (m : ME) : MS := fun Z ρ => m ρ Z.rt
def sRetN : MS := fun Z _ => Z.rt .non
theorem evs_next : EvS G tNext sNext := fun B0 H0 B H σ ρ hS Z E C hm => C.nx _ _ _ _ hm hS (Tr.refl _ _)
theorem evs_seq (h1 : EvS G t ms) (h2 : EvS G u mu) : EvS G (tSeq t u) (sSeq ms mu) := by
  intro B0 H0 B H σ ρ hS Z E C hm
  exact h1 B0 H0 B H σ ρ hS { Z with nx := fun ρ' => mu Z ρ' } { E with nx := u E } ⟨fun ρ' σ' B' H' q hS' t => h2 B0 H0 B' H' σ' ρ' hS' Z E (C.from t) q, C.rt, C.bk, C.ct⟩ hm
theorem evs_brk : EvS G tBreak sBrk := fun B0 H0 B H σ ρ hS Z E C hm => C.bk _ _ _ _ hm hS (Tr.refl _ _)
theorem evs_cont : EvS G tCont sCont := fun B0 H0 B H σ ρ hS Z E C hm => C.ct _ _ _ _ hm hS (Tr.refl _ _)
theorem evs_drop (h : EvD G te me) : EvS G (tDrop te) (sDrop me) := by
  intro B0 H0 B H σ ρ hS Z E C hm
  exact h B H σ ρ hS.sta (fun _ => Z.nx ρ) _ (fun d v H1 q b1 ok1 _ => C.nx _ _ _ _ q (hS.step b1 ok1).1 (hS.step b1 ok1).2) hm
theorem evs_if (hc : EvT G tt mt) (h1 : EvS G t ms) (h2 : EvS G u mu) : EvS G (tIfS tt t u) (sIf mt ms mu) := by
  intro B0 H0 B H σ ρ hS Z E C hm
  refine hc B H σ ρ hS.sta (fun b => if b = true then ms Z ρ else mu Z ρ) _ (fun b H1 q b1 ok1 => ?_) hm
  obtain ⟨s1, t1⟩ := hS.step b1 ok1
  cases b with
  | true => exact h1 B0 H0 B H1 σ ρ s1 Z E (C.from t1) q
  | false => exact h2 B0 H0 B H1 σ ρ s1 Z E (C.from t1) q
theorem evs_asg {g : TG} {ws : List Nat} {mg : MG} (h : EvD G te me) (hg : EvG G g ws mg) : EvS G (tAsg te g) (sAsg me mg) := by
  intro B0 H0 B H σ ρ hS Z E C hm
  refine h B H σ ρ hS.sta (fun d => mg d ρ Z.nx) _ (fun d v H1 q b1 ok1 hd => ?_) hm
  obtain ⟨s1, t1⟩ := hS.step b1 ok1
  refine hg B H1 σ ρ s1.sta v d hd Z.nx _ (fun ρ' σ' q hS' hl hw ho => ?_) q
  refine C.nx _ _ _ _ q ⟨hS', s1.bx, hS.up, hS.fr, hS.own.keep ho, hS.bg⟩ t1
theorem evs_par {i j : Nat} {tA : TA} {mA : MA} (h : EvA G tA mA) : EvS G (tPar i j tA) (sPar i j mA) := by
  intro B0 H0 B H σ ρ hS Z E C hm
  refine h B H σ ρ hS.sta (fun ds => two ds fun d e => Z.nx ((ρ.set i (.val d)).set j (.val e))) _ (fun ds v H1 q b1 ok1 hd => ?_) hm
  obtain ⟨s1, t1⟩ := hS.step b1 ok1
  unfold two at q
  split at q
  · obtain ⟨v1, v2, rfl, hv1, hv2⟩ := hd.two
    refine ⟨v1, v2, rfl, C.nx _ _ _ _ q ⟨(s1.sta.set hv1).set hv2, s1.bx, hS.up, hS.fr, hS.own.keep (keep_set.trans keep_set), hS.bg⟩ t1⟩
  · exact q.elim
theorem evs_ret (h : EvD G te me) : EvS G (tRet te) (sRet me) := by
  intro B0 H0 B H σ ρ hS Z E C hm
  refine h B H σ ρ hS.sta Z.rt _ (fun d v H1 q b1 ok1 hd => ?_) hm
  exact C.rt d v H1 q (hS.bx.trans b1) (ok_less ok1 hS.up hS.bg) (hd.less hS.up)
theorem evs_retN : EvS G tRetN sRetN := by
  intro B0 H0 B H σ ρ hS Z E C hm
  exact C.rt .non .non H hm hS.bx (ok_less hS.sta.ok hS.up hS.bg) .non
end

/-! ### for -/
def forM (mg : MG) (mb : MS) (Z : Ed) : List D → Rho → Prop
  | [], ρ => Z.nx ρ
  | d :: ds, ρ => mg d ρ fun ρ1 => mb { nx := fun ρ2 => forM mg mb Z ds ρ2, rt := Z.rt, bk := Z.nx, ct := fun ρ2 => forM mg mb Z ds ρ2 } ρ1
def sFor (mi : MA) (mg : MG) (mb : MS) : MS := fun Z ρ => mi ρ fun ds => forM mg mb Z ds ρ
section
variable {G : Ga}
theorem evs_for {wi : TI} {mi : MA} {g : TG} {ws : List Nat} {mg : MG} {tb : TS} {mb : MS} (hi : EvI G wi mi) (hg : EvG G g ws mg) (hb : EvS G tb mb) : EvS G (tFor wi g tb) (sFor mi mg mb) := by
  intro B0 H0 B H σ ρ hS Z E C hm
  refine hi B H σ ρ hS.sta (fun ds => forM mg mb Z ds ρ) _ (fun ds J H1 q b1 ok1 hJ => ?_) hm
  obtain ⟨s1, t1⟩ := hS.step b1 ok1
  refine ⟨fun i m σ' H' => i + m = ds.length ∧ ∃ B' ρ', Sg G B0 H0 B' H' σ' ρ' ∧ Tr B H1 B' H' ∧ forM mg mb Z (ds.drop i) ρ', ⟨ds.length, by omega, B, ρ, s1, Tr.refl _ _, q⟩, ?_⟩
  rintro i m σ' H' ⟨em, B', ρ', hS', hT, hf⟩
  obtain ⟨hstop, hgo⟩ := hJ B' H' hT hS'.sta.ok i
  by_cases hlt : i < ds.length
  · right
    have ed : ds[i]? = some ds[i] := List.getElem?_eq_getElem hlt
    obtain ⟨go, yl⟩ := hgo _ ed
    refine ⟨go, fun σ2 H2 => ∃ B2 ρ2, Sg G B0 H0 B2 H2 σ2 ρ2 ∧ Tr B H1 B2 H2 ∧ forM mg mb Z (ds.drop (i + 1)) ρ2, fun σ2 H2 h2 => ⟨m - 1, by omega, by omega, h2⟩, fun x H2 hy => ?_⟩
    obtain ⟨e2, hx⟩ := yl x H2 hy
    obtain ⟨s2, t2⟩ := hS'.step e2.nil (hS'.sta.ok.ex e2)
    rw [List.drop_eq_getElem_cons hlt] at hf
    refine hg B' H2 σ' ρ' s2.sta x _ hx _ _ (fun ρ1 σ1 q1 hS3 hl3 hw3 ho3 => ?_) hf
    have s3 : Sg G B0 H0 B' H2 σ1 ρ1 := ⟨hS3, s2.bx, s2.up, s2.fr, hS'.own.keep ho3, s2.bg⟩
    have t3 : Tr B H1 B' H2 := hT.trans t2
    refine hb B0 H0 B' H2 σ1 ρ1 s3 { nx := fun ρ2 => forM mg mb Z (ds.drop (i + 1)) ρ2, rt := Z.rt, bk := Z.nx, ct := fun ρ2 => forM mg mb Z (ds.drop (i + 1)) ρ2 } _ ⟨fun ρ2 σ2 B2 H3 z s t => ⟨B2, ρ2, s, t3.trans t, z⟩, C.rt, fun ρ2 σ2 B2 H3 z s t => C.nx ρ2 σ2 B2 H3 z s ((t1.trans t3).trans t), fun ρ2 σ2 B2 H3 z s t => ⟨B2, ρ2, s, t3.trans t, z⟩⟩ q1
  · left
    have ei : i = ds.length := by omega
    rw [List.drop_eq_nil_of_le (by omega)] at hf
    exact ⟨hstop ei, C.nx ρ' σ' B' H' hf hS' (t1.trans hT)⟩
end

/-! ### a def's body from its mirror -/
/-- the arguments in their slots -/
def begin_ (n : Nat) (ds : List D) : Rho := ds.map Slot.val ++ List.replicate (n - ds.length) Slot.no
theorem begin_noOwn (n : Nat) (ds : List D) (i : Nat) (es : List D) : (begin_ n ds)[i]? ≠ some (Slot.own es) := fun e => by
  unfold begin_ at e
  rw [List.getElem?_append] at e
  split at e
  · rw [List.getElem?_map] at e
    cases q : ds[i]? with
    | none => rw [q] at e; cases e
    | some d => rw [q] at e; cases e
  · rw [List.getElem?_replicate] at e
    split at e <;> cases e
theorem begin_noSlf (n : Nat) (ds : List D) (a C : Addr) (es : List (Str × D)) : (begin_ n ds)[0]? ≠ some (Slot.slf a C es) := fun e => by
  unfold begin_ at e
  rw [List.getElem?_append] at e
  split at e
  · rw [List.getElem?_map] at e
    cases q : ds[0]? with
    | none => rw [q] at e; cases e
    | some d => rw [q] at e; cases e
  · rw [List.getElem?_replicate] at e
    split at e <;> cases e
theorem begin_sta {G : Ga} {B : Bs} {H : Hp} {N : List Str} {vs : List V} {ds : List D} (ok : Ok G B H) (h : Dts G B H vs ds) : Sta G B H (L2.start N vs) (begin_ N.length ds) := by
  have hl := h.length
  refine ⟨ok, by simp [begin_, L2.start, hl], fun i d e => ?_, fun i es e => absurd e (begin_noOwn _ _ i es), fun i j es fs a e1 _ _ _ => absurd e1 (begin_noOwn _ _ i es), fun a C es e => absurd e (begin_noSlf _ _ a C es)⟩
  unfold begin_ at e
  rw [List.getElem?_append] at e
  split at e
  · rename_i hi
    rw [List.getElem?_map] at e
    cases q : ds[i]? with
    | none => rw [q] at e; cases e
    | some d' =>
      rw [q] at e
      cases e
      obtain ⟨v, ev, hv⟩ := h.get q
      refine ⟨v, ?_, hv⟩
      unfold L2.start
      rw [List.getElem?_append_left (by simp; rw [List.length_map] at hi; omega), List.getElem?_map, ev]; rfl
  · rw [List.getElem?_replicate] at e
    split at e <;> cases e
/-- a body on data -/
def runM (n : Nat) (ms : MS) (ds : List D) (Qd : D → Prop) : Prop := ms { nx := fun _ => Qd .non, rt := Qd } (begin_ n ds)
/-- the reading of a body, from the promise -/
theorem body_of {K : PySem.W.Frag} {n : Nat} {f : List D → MD} {N : List Str} {vs : List V} {H : Hp} {Q : VK} {E : XK} {t : TS} {ms : MS} (h : spM K n f vs H Q E)
    (hS : ∀ b, EvS ⟨K, b⟩ t ms) (hf : ∀ ds Qd, ds.length = n → f ds Qd → runM N.length ms ds Qd) : t { nx := fun _ H' => Q .non H', rt := Q } (L2.start N vs) H := by
  obtain ⟨b, B, ds, Qd, ok, hd, hl, q, k⟩ := h
  have hb : ∀ a ∈ (⟨K, b⟩ : Ga).c, a ∈ B := ok.sub
  refine hS b B H B H (L2.start N vs) (begin_ N.length ds) ⟨begin_sta ok hd, Bx.refl _ _, fun _ z => z, fun _ z => .inl z, ⟨fun i es a e _ => absurd e (begin_noOwn _ _ i es), fun a C es e => absurd e (begin_noSlf _ _ a C es)⟩, hb⟩ { nx := fun _ => Qd .non, rt := Qd } _
    ⟨fun ρ σ B' H' z hS' _ => k .non .non H' z hS'.bx (ok_less hS'.sta.ok hS'.up hb) .non, fun d v H' z b1 ok1 hv => k d v H' z b1 ok1 hv, fun _ _ _ _ z _ _ => z, fun _ _ _ _ z _ _ => z⟩ (hf ds Qd hl q)
end Dz

namespace Dz
open PySem PySem.Spec PyProof.Rows L2

/-! ### defs that may look at how things are written (repr): nothing is being written where they are called -/
structure FnG (P : Program) (w : World) (K : PySem.W.Frag) (mg : Str → Option Value) (base : Heap) (CX : CXT) (k : Nat) (f : Addr) (fd : FuncData) (ps : List Str) (sp : Sp) : Prop where
  len : ∀ vs H Q E, sp vs H Q E → vs.length = ps.length
  run : ∀ (A : Around) (outer : List Env) (s : Shared) (H : Hp) (args : Args) (us : List Value) (vs : List V) (Q : VK) (E : XK), Room k A → A.guards = some [] →
    Env0 P w K mg base A outer s H → BindsTo s fd args (ps.zip us) → Vals vs us → sp vs H Q E → codeAny (model P w) A (.call (.ref f) args) (CR CX outer P w H s Q E) s
section
variable {P : Program} {w : World} {K : PySem.W.Frag} {mg : Str → Option Value} {base : Heap} {CX : CXT}
theorem FnG.up {j k : Nat} {f : Addr} {fd : FuncData} {ps : List Str} {sp : Sp} (F : FnG P w K mg base CX j f fd ps sp) (h : j ≤ k) : FnG P w K mg base CX k f fd ps sp :=
  ⟨F.len, fun A outer s H args us vs Q E hr hg e0 hb hv hs => F.run A outer s H args us vs Q E (hr.mono h) hg e0 hb hv hs⟩
/-- a def's body, its reading: the promise -/
theorem fnG_of {x qual : Str} {st : Stmt} {f : Addr} {fd : FuncData} {N ps : List Str} {k : Nat} {sp : Sp} (F : Fun K x qual st f fd) (S : FnScope N ps (defScope st)) (len : ∀ vs H Q E, sp vs H Q E → vs.length = ps.length)
    (hbody : ∀ (cdv : Value) (A : Around) (outer : List Env) (s : Shared) (H : Hp) (vs : List V) (Q : VK) (E : XK), Room k (A.deeper (envOfC qual (defScope st) s.heap.objs.size f cdv)) → A.guards = some [] → sp vs H Q E →
      ∃ t, PSs (cxOf CX P w K mg base N qual (defScope st) f cdv A outer s H E) (defBody st) t ∧ t { nx := fun _ H' => Q .non H', rt := Q } (L2.start N vs) H) : FnG P w K mg base CX (k + 1) f fd ps sp := by
  obtain ⟨oc, od, kV, doc, pm, an, cdv, ct, osl, rfl, lk, hcd⟩ := F.ex
  refine ⟨len, fun A outer s₀ H args us vs Q E room quiet e0 hb r promise => ?_⟩
  have KX : K.In s₀.heap := e0.mod.kin.keeps fun b o e => (e0.bs b o e).1
  have hkind : ∀ y ∈ ps.zip us, (defScope st).names.lookup y.1 = some .local ∨ ((defScope st).names.lookup y.1 = some .cell ∧ ((cellsFrom (s₀.heap.objs.size + 1) (defScope st).names []).lookup y.1).isSome = true) := by
    rintro ⟨n, v⟩ hy
    rcases S.par n (List.of_mem_zip hy).1 with q | q
    · left; exact q
    · right; exact ⟨q, PySem.W.cellsFrom_some _ _ _ (.inl q)⟩
  refine codeAny_call_function room.depth (KX _ _ lk) rfl S.co S.gen rfl (PySem.W.codeRec_of KX hcd) (hb _ _ _ _ (wpAny_newFunctionEnv_cells S.kind hkind fun env he s1 x => ?_))
  subst he
  refine ⟨(e0.mod.nolimit.keeps fun b o e => (e0.bs b o e).1).keeps x.toInCall.keep, codeAny_func ?_⟩
  obtain ⟨t, ht, hq⟩ := hbody cdv A outer s₀ H vs Q E (room.deeper _) quiet promise
  refine wpAny_mono (ht.run [] s1 (L2.start N vs) H _ (inv_start S room.hd e0 (len _ _ _ _ promise) r x) hq) (fun fl s' hs => ?_) fun e s' hs => hs
  cases fl with
  | ret u => obtain ⟨v, σ', H', J, rv, q⟩ := hs; exact ⟨v, H', J.os, J.bare, J.base, J.hok, rv, q⟩
  | next => obtain ⟨σ', H', J, q⟩ := hs; exact ⟨V.non, H', J.os, J.bare, J.base, J.hok, rfl, q⟩
  | brk => obtain ⟨_, _, _, q⟩ := hs; exact q.elim
  | cont => obtain ⟨_, _, _, q⟩ := hs; exact q.elim
end
section
variable {X : Cx} {CX : CXT} {k : Nat} {f : Addr} {fd : FuncData} {ps : List Str} {sp : Sp} {dvs : List V} {ds : List Value} {E : XK} {x : Str} {p pos : Pos} {e : Expr} {es : List Expr} {t : TA}
theorem runG {pins : List (Addr × Obj)} {σ : L2.St} {H : Hp} {s : Shared} {Q : VK} {us : List Value} {vs : List V} (F : FnG X.prog X.w X.K X.mg X.base CX k f fd ps sp) (hr : Room k X.A) (hq : X.A.guards = some []) (hb : Binds X.K fd ps ds) (hd : Vals dvs ds)
    (hx : Passes CX X E) (I : Inv X pins σ H s) (r : Vals vs us) (h : sp (vs ++ dvs) H Q E) : wpAny (model X.prog X.w) X.A (call (.ref f) us) (EP X pins σ Q) X.xe s := by
  have both : Vals (vs ++ dvs) (us ++ ds) := r.append hd
  have many : (us ++ ds).length = ps.length := both.length.symm.trans (F.len _ _ _ _ h)
  refine wpAny_call (codeAny_mono (F.run X.A X.stack s H ⟨us, []⟩ (us ++ ds) (vs ++ dvs) Q E hr hq I.env0 (hb s us I.kIn many) both h) fun res s' told => ?_)
  match res, told with
  | .error e, told => exact hx pins σ H s e s' I told
  | .ok (.ret u), told => exact I.after told
/-- f(e, ..) -/
theorem peG (F : FnG X.prog X.w X.K X.mg X.base CX k f fd ps sp) (hr : Room k X.A) (hq : X.A.guards = some []) (hg : Gl X x) (hm : X.mg x = some (.ref f)) (hk : PySem.W.keepIn X.K (.ref f) = true) (hb : Binds X.K fd ps ds) (hd : Vals dvs ds) (hx : Passes CX X E)
    (ha : PA X (e :: es) t) (hdb : (x == ("__debug__" : Str)) = false := by decide) (he : starEach (e :: es) X.env = (false, eval e X.env) :: starEach es X.env := by rfl) (hpl : (backTo pos (starEach es X.env)).any (·.1) = false := by rfl) :
    PE X (.Call (.Name x p) (e :: es) [] pos) (tCall sp dvs E t) := ⟨fun pins s σ H Q I h =>
  wpAny_Call_Name_kw (ld_glob I hg hm (PySem.W.callWith_K (h₀ := X.base) I.ok.mod.kin hk (thn (ha.run pos pins s σ H _ I h) fun us s1 ⟨vs, H1, I1, r, q⟩ => ⟨I1.kIn, runG F hr hq hb hd hx I1 r q⟩) he hpl) hdb)⟩
end

/-! ### the end of a law -/
section
variable {P : Program} {w : World} {K : PySem.W.Frag} {mg mb : Str → Option Value} {k : Nat} {fa a : Addr} {fd : FuncData} {x : Str} {sp : Sp} {s₁ : Shared} {vs : List Value} {ns : List Int}
theorem law_callG (KX : K.In s₁.heap) (hns : s₁.heap.Ns mainGlobals mg) (hb : s₁.heap.Ns builtinsNs mb) (hbb : ∀ x : Str, x ≠ "__name__" → mb x = bootBuiltins x) (hlim : s₁.heap.NoLimit) (hg : s₁.gens = #[])
    (ha : s₁.heap.get? a = some { cls := .type "list", data := .seq vs.toArray }) (hi : IntsAre vs ns) (hl : ns.length ≤ sizeLine) (hr : Room k callerA) (hq : callerA.guards = some [])
    (F : ∀ base : Heap, K.In base → base.Ns mainGlobals mg → FnG P w K mg base CX0 k fa fd [x] sp) (hbind : ∀ (s : Shared) (u : Value), BindsTo s fd ⟨[u], []⟩ [(x, u)])
    (hsp : ∀ H : Hp, Only H → SqL K H a (ns.map V.int) → sp [.ref a] H (fun v _ => v = .bl true) fun _ _ _ => False) :
    codeAny (model P w) callerA (.call (.ref fa) ⟨[.ref a], []⟩) (fun r s' => r = .ok (.ret (.bool true)) ∧ OldK s₁.heap s'.heap ∧ s'.os = s₁.os ∧ AllBare s'.gens) s₁ := by
  have rv := vals_ints hi
  -- H tracks the script at most
  have core : ∀ H : Hp, Only H → SqL K H a (ns.map V.int) → HOk P w H s₁.heap → (∀ b u, H b = some u → b = a) → ((∃ u, H a = some u) → K.lookup a = none) →
      codeAny (model P w) callerA (.call (.ref fa) ⟨[.ref a], []⟩) (fun r s' => r = .ok (.ret (.bool true)) ∧ OldK s₁.heap s'.heap ∧ s'.os = s₁.os ∧ AllBare s'.gens) s₁ := by
    intro H hO hS hok hA hK
    have ns_of : ∀ {b : Addr} {m : Str → Option Value}, s₁.heap.Ns b m → (hidT s₁.heap H).Ns b m := by
      rintro b m ⟨o, es, ep, e, d, r⟩
      refine ⟨o, es, ep, hidT_get e ?_, d, r⟩
      match z : H b with
      | none => rfl
      | some u =>
        have z1 := hA b u z
        rw [z1, ha] at e
        cases e
        have d' : Data.seq vs.toArray _ = Data.dict es ep := d
        cases d'
    have KB : K.In (hidT s₁.heap H) := fun b o e => hidT_get (KX b o e) (by
      match z : H b with
      | none => rfl
      | some u =>
        have z1 := hA b u z
        subst z1
        rw [hK ⟨u, z⟩] at e
        cases e)
    have ground : Mod K mg (hidT s₁.heap H) := ⟨KB, ns_of hns, ⟨mb, ns_of hb, hbb⟩, let ⟨mc, h1, h2⟩ := hlim; ⟨mc, ns_of h1, h2⟩⟩
    have e0 : Env0 P w K mg (hidT s₁.heap H) callerA [] s₁ H :=
      { frames := rfl, mod := ground, bs := fun b o e => of_hidT e, bsz := Nat.le_of_eq (hidT_size _ _), funs := trivial, frf := fun b hb => absurd (show b ∈ ([] : List Addr) from hb) (by simp), hok := hok, bare := .of_eq hg }
    refine codeAny_mono ((F _ KB (ns_of hns)).run callerA [] s₁ H ⟨[.ref a], []⟩ [.ref a] [.ref a] _ _ hr hq e0 (hbind s₁ (.ref a)) (.cons rfl .nil) (hsp H hO hS)) fun r s' told => ?_
    match r, told with
    | .error e, told => exact told.elim
    | .ok (.ret u), ⟨v, H', os, bare, un, hok', r', q⟩ =>
      have q' : v = .bl true := q
      subst q'
      have r2 : u = Value.bool true := r'
      subst r2
      refine ⟨rfl, OldK.of_keep fun b o e => ?_, os, bare⟩
      match z : H b with
      | none => exact un.keep b o e z (fun m => absurd (show b ∈ ([] : List Addr) from m) (by simp)) (by simp)
      | some u =>
        rcases hO b with n | ⟨ob, xs, n⟩
        · rw [z] at n; cases n
        · obtain ⟨e1, _⟩ := hok b _ n
          obtain ⟨e2, _⟩ := hok' b _ (un.frzs b ob _ n)
          have e3 : some o = some ob := e.symm.trans e1
          rw [Option.some.inj e3]
          exact e2
  match hk : K.lookup a with
  | some o =>
    have e1 := KX a o hk
    rw [ha] at e1
    have e2 : { cls := .type "list", data := .seq vs.toArray } = o := Option.some.inj e1
    subst e2
    refine core (fun _ => none) (fun _ => .inl rfl) (.inr ⟨_, vs.toArray, _, hk, rfl, rfl, rfl, by rw [List.size_toArray, hi.length]; exact hl, by simpa using rv⟩) (fun b u z => by cases (show (none : Option HO) = some u from z)) (fun b u z => by cases (show (none : Option HO) = some u from z)) fun ⟨u, z⟩ => by cases (show (none : Option HO) = some u from z)
  | none =>
    let H1 : Hp := fun b => if b = a then some (.frz { cls := .type "list", data := .seq vs.toArray } (.lst (ns.map V.int))) else none
    have at_a : H1 a = some (.frz { cls := .type "list", data := .seq vs.toArray } (.lst (ns.map V.int))) := if_pos rfl
    have off : ∀ b u, H1 b = some u → b = a := fun b u z => by
      by_cases hb : b = a
      · exact hb
      · rw [show H1 b = none from if_neg hb] at z; cases z
    refine core H1 (fun b => ?_) (.inl (.inr ⟨_, at_a⟩)) (fun b u z => ?_) off fun _ => hk
    · by_cases hb : b = a
      · right; exact ⟨_, _, by rw [hb]; exact at_a⟩
      · left; exact if_neg hb
    · have hb := off b u z
      subst hb
      rw [at_a] at z
      cases z
      exact ⟨ha, by rw [List.length_map]; exact hl, vs, _, rv, ha⟩
end
theorem walk_ofG {l : PySem.W.OpenLaw} {n k : Nat} {q : Program} {loose : List Str} {XP : (Str → Option Value) → Heap → Prop} {YP : World → Heap → Prop} {d : DefRec} {K : Params → PySem.W.Frag} {sp : PySem.W.Frag → Sp} {x : Str}
    (hn : l.most = some n) (hn2 : n ≤ sizeLine) (hdf : d.params.defaults = []) (hr : Room k callerA) (hq : callerA.guards = some []) (hY : ∀ (w : World) (h : Heap), YP w h → (K w.params).In h)
    (F : ∀ (w : World) (mg : Str → Option Value) (fa : Addr) (h : Heap), (K w.params).In h → h.Ns mainGlobals mg → mg d.name = some (.ref fa) →
      ∃ fd : FuncData, (∀ (s : Shared) (u : Value), BindsTo s fd ⟨[u], []⟩ [(x, u)]) ∧ ∀ base : Heap, (K w.params).In base → base.Ns mainGlobals mg → FnG l.prog w (K w.params) mg base CX0 k fa fd [x] (sp (K w.params)))
    (hsp : ∀ (K : PySem.W.Frag) (H : Hp) (a : Addr) (ns : List Int), ns.length ≤ n → Only H → SqL K H a (ns.map V.int) → sp K [.ref a] H (fun v _ => v = .bl true) fun _ _ _ => False) :
    PySem.W.WalkO q loose XP YP l.row.toRowW d [] (fun f vs => PySem.call f vs) :=
  Att.attach_call hn hdf fun w s₀ s₁ mg mb fa o pm cd doc a vs ns Gr Y ho hd hcd hmg hobj hints hlen hgen => by
    have KX := hY w _ Y
    obtain ⟨fd, hb, hF⟩ := F w mg fa _ KX Gr.T.g hmg
    exact law_callG KX Gr.T.g Gr.T.b Gr.T.builtins Gr.T.nolimit hgen hobj hints (Nat.le_trans hlen hn2) hr hq hF hb fun H hO hS => hsp _ H a ns hlen hO hS
end Dz

namespace Dz
open PySem PySem.Spec PyProof.Rows L2

theorem pget_lst {X : Cx} : PGet X (rIxL X.K) := by
  intro pins s σ H o i ov iv Q I r1 r2 h
  obtain ⟨p, xs, k, z, rfl, rfl, hq, he, q⟩ := h
  cases r1
  obtain ⟨t, rfl⟩ := r2
  obtain ⟨its, r, pl, hz⟩ := I.list hq
  obtain ⟨j, h1, h2, h3, h4, h5⟩ := atI_get he
  obtain ⟨u, ew, ru⟩ := r.get h2
  have hl := r.length
  have hn := line63
  have fin : EP X pins σ Q u s := ⟨z, H, I, ru, q⟩
  by_cases h0 : 0 ≤ k
  · have hj : k.toNat = j := by
      rw [seqIndex_of h0 h5] at h1
      exact Option.some.inj h1
    exact getItem_listL pl.isList h0 (by omega) (by rw [hj]; exact ew) fin
  · have hj : (k + (its.toArray.size : Int)).toNat = j := by
      rw [seqIndex_neg (by omega) h4] at h1
      rw [List.size_toArray, ← hl]
      exact Option.some.inj h1
    exact wpAny_getItem_list_neg pl.isList (by omega) (by rw [List.size_toArray] <;> omega) (by omega) (by rw [hj]; simpa using ew) fin

/-! ### the law's bag of draws -/
/-- a draw below n: any -/
def takeM (ds : List D) (Q : D → Prop) : Prop := match ds with
  | [.bag, .int n] => (0 < n ∧ n.natAbs.log2 < 9000) ∧ ∀ r : Int, 0 ≤ r → r < n → Q (.int r)
  | _ => False
/-- the bag is made: what it holds is nobody else's -/
def spBag (K : PySem.W.Frag) : Sp := fun vs H Q _ => ∃ (a : Addr) (ns : List Int), vs = [.ref a] ∧ SqL K H a (ns.map V.int) ∧ ns.length ≤ 100000 ∧
  ∀ b c H', Bx .no H H' → Ok ⟨K, some (b, c)⟩ (.cons b (.cons c .no)) H' → Q (.ref b) H'
theorem spBag_len {K : PySem.W.Frag} {vs : List V} {H : Hp} {Q : VK} {E : XK} (h : spBag K vs H Q E) : vs.length = 1 := by
  obtain ⟨a, ns, rfl, _⟩ := h; rfl
def absI (i : Int) : Int := if i < 0 then -i else i
theorem absI_nn (i : Int) : 0 ≤ absI i := by unfold absI; split <;> omega
/-- how a list of ints is cut -/
theorem cut_ints (ns : List Int) (lo hi : Option Int) : ∃ ms : List Int, cutV (ns.map V.int) lo hi = ms.map V.int ∧ ms.length ≤ ns.length := by
  refine ⟨(ns.drop (HT.sIx ns.length 0 lo)).take (HT.sIx ns.length ns.length hi - HT.sIx ns.length 0 lo), ?_, ?_⟩
  · unfold cutV; rw [List.length_map, List.map_take, List.map_drop]
  · rw [List.length_take, List.length_drop]; omega
theorem spTake_inv {K : PySem.W.Frag} {vs : List V} {H : Hp} {Q : VK} {E : XK} (h : spM K 2 takeM vs H Q E) : ∃ (b c : Addr) (m z t n : Int) (cells : List Int), vs = [.ref b, .int m] ∧ 0 < m ∧ m.natAbs.log2 < 9000 ∧
    H b = some (.lst [.int z, .int t, .int n, .ref c]) ∧ H c = some (.lst (cells.map V.int)) ∧ 0 ≤ z ∧ 0 ≤ t ∧ 0 ≤ n ∧ (∀ x ∈ cells, 0 ≤ x) ∧ c ≠ b ∧
    ∀ r z' t' n' H', 0 ≤ r → r < m → 0 ≤ z' → 0 ≤ t' → 0 ≤ n' → H' b = some (.lst [.int z', .int t', .int n', .ref c]) → (∀ a, a ≠ b → H' a = H a) → Q (.int r) H' := by
  obtain ⟨bo, B, ds, Qd, ok, hd, hl, q, k⟩ := h
  unfold takeM at q
  split at q
  · rename_i m
    obtain ⟨v, w, rfl, hv, hw⟩ := hd.two
    cases hw
    cases hv with
    | bag hb =>
      rename_i b c
      have hb' : bo = some (b, c) := hb
      subst hb'
      obtain ⟨hB, hC, z, t, n, cells, h1, h2, ncb, h4, h5, h6, h7⟩ := ok.bg b c rfl
      refine ⟨b, c, m, z, t, n, cells, rfl, q.1.1, q.1.2, h1, h2, h4, h5, h6, h7, ncb, fun r z' t' n' H' r0 r1 z0 t0 n0 e1 e2 => ?_⟩
      refine k (.int r) (.int r) H' (q.2 r r0 r1) (fun a o na e => ?_) ⟨fun a ha => ?_, fun b' c' e => ?_⟩ (.int r)
      · have : a ≠ b := fun z => na ⟨(b, c), rfl, .inl z⟩
        rw [e2 a this]; exact e
      · by_cases z : a = b
        · rw [z, e1]; simp
        · rw [e2 a z]; exact ok.al a ha
      · have : (b, c) = (b', c') := Option.some.inj e
        cases this
        exact ⟨hB, hC, z', t', n', cells, e1, by rw [e2 c ncb]; exact h2, ncb, z0, t0, n0, h7⟩
  · exact q.elim
def lst4 (z t n : Int) (c : Addr) : HO := .lst [.int z, .int t, .int n, .ref c]
end Dz
namespace Dz
open PySem PySem.Spec PyProof.Rows L2
/-- the law: True for every script -/
def spLaw (K : PySem.W.Frag) : Sp := fun vs H Q _ => ∃ (a : Addr) (ns : List Int), vs = [.ref a] ∧ SqL K H a (ns.map V.int) ∧ ns.length ≤ 63 ∧ ∀ H', Q (.bl true) H'
theorem spLaw_len {K : PySem.W.Frag} {vs : List V} {H : Hp} {Q : VK} {E : XK} (h : spLaw K vs H Q E) : vs.length = 1 := by
  obtain ⟨a, ns, rfl, _⟩ := h; rfl
theorem law_body {K : PySem.W.Frag} {vs : List V} {H : Hp} {Q : VK} {E E2 : XK} {N : List Str} {t : TS} {ms : MS} {n : Nat} (h : spLaw K vs H Q E)
    (hS : ∀ b, EvS ⟨K, some b⟩ t ms) (hlaw : ms { nx := fun _ => False, rt := fun d => d = .bl true } (.no :: .val .bag :: List.replicate n .no)) (hN : N.length = n + 2 := by rfl) :
    tSeq (tAsg (tCall (spBag K) [] E2 (tCons (tVar 0) tNil)) (gName 1)) t { nx := fun _ H' => Q .non H', rt := Q } (L2.start N vs) H := by
  obtain ⟨a, ns, rfl, hL, hlen, q⟩ := h
  have est : L2.start N [V.ref a] = some (.ref a) :: none :: List.replicate n none := by
    unfold L2.start
    rw [hN]; rfl
  rw [est]
  refine ⟨.ref a, rfl, a, ns, rfl, hL, by omega, fun b c H1 e1 ok1 => ?_⟩
  have sta : Sta ⟨K, some (b, c)⟩ (.cons b (.cons c .no)) H1 (some (.ref a) :: some (.ref b) :: List.replicate n none) (.no :: .val .bag :: List.replicate n .no) := by
    refine ⟨ok1, by simp, fun i d e => ?_, fun i ds e => ?_, fun i j ds es x e _ _ _ => ?_, fun a C ds e => by cases e⟩
    · match i, e with
      | 1, e => cases e; exact ⟨_, rfl, .bag rfl⟩
      | i + 2, e =>
        have e' : (List.replicate n Slot.no)[i]? = some (Slot.val d) := e
        rw [List.getElem?_replicate] at e'
        split at e' <;> cases e'
    · match i, e with
      | i + 2, e =>
        have e' : (List.replicate n Slot.no)[i]? = some (Slot.own ds) := e
        rw [List.getElem?_replicate] at e'
        split at e' <;> cases e'
    · match i, e with
      | i + 2, e =>
        have e' : (List.replicate n Slot.no)[i]? = some (Slot.own ds) := e
        rw [List.getElem?_replicate] at e'
        split at e' <;> cases e'
  refine hS (b, c) (.cons b (.cons c .no)) H1 (.cons b (.cons c .no)) H1 _ _ ⟨sta, Bx.refl _ _, fun _ z => z, fun _ z => .inl z, ⟨fun i ds x e _ => absurd (sta.own i ds e) fun ⟨_, _, e1, _⟩ => ?_, fun a C fs e => by cases e⟩, sta.ok.sub⟩ { nx := fun _ => False, rt := fun d => d = .bl true } _ ⟨fun _ _ _ _ z _ _ => z.elim, fun d v H' z _ _ hv => ?_, fun _ _ _ _ z _ _ => z.elim, fun _ _ _ _ z _ _ => z.elim⟩ hlaw
  · match i, e with
    | i + 2, e =>
      have e' : (List.replicate n Slot.no)[i]? = some (Slot.own ds) := e
      rw [List.getElem?_replicate] at e'
      split at e' <;> cases e'
  · have z' : d = .bl true := z
    subst z'
    cases hv
    exact q H'
end Dz
namespace Dz
open PySem PySem.Spec PyProof.Rows L2
theorem bt_len : bootBuiltins "len" = some (.builtin "len") := by decide +kernel
theorem bt_int : bootBuiltins "int" = some (.type "int") := by decide +kernel
theorem bt_tuple : bootBuiltins "tuple" = some (.type "tuple") := by decide +kernel
theorem bt_list : bootBuiltins "list" = some (.type "list") := by decide +kernel
theorem bt_all : bootBuiltins "all" = some (.builtin "all") := by decide +kernel
theorem bt_any : bootBuiltins "any" = some (.builtin "any") := by decide +kernel
theorem bt_isinstance : bootBuiltins "isinstance" = some (.builtin "isinstance") := by decide +kernel
theorem bt_repr : bootBuiltins "repr" = some (.builtin "repr") := by decide +kernel
theorem bt_abs : bootBuiltins "abs" = some (.builtin "abs") := by decide +kernel
theorem bt_str : bootBuiltins "str" = some (.type "str") := by decide +kernel
theorem bt_bool : bootBuiltins "bool" = some (.type "bool") := by decide +kernel
theorem bt_dict : bootBuiltins "dict" = some (.type "dict") := by decide +kernel
theorem bt_sorted : bootBuiltins "sorted" = some (.builtin "sorted") := by decide +kernel
theorem bt_set : bootBuiltins "set" = some (.type "set") := by decide +kernel
theorem bt_min : bootBuiltins "min" = some (.builtin "min") := by decide +kernel
theorem bt_max : bootBuiltins "max" = some (.builtin "max") := by decide +kernel
theorem bt_sum : bootBuiltins "sum" = some (.builtin "sum") := by decide +kernel
end Dz

namespace Dz
open PySem PySem.Spec PyProof.Rows L2
/-! ### the rules with the written part by its name -/
section
variable {X : Cx} {K : PySem.W.Frag}
theorem ixK (h : X.K = K) : IxR X (rIx K) := by subst h; exact ix_seq
theorem slK (h : X.K = K) : SlR X (rSlU K) := by subst h; exact sl_U
theorem addK (h : X.K = K) : OpR X (binaryOp .Add) (rAddU K) := by subst h; exact op_addU
theorem eqK (h : X.K = K) (hu : X.A.units + 64 < cLine) : OpR X (compareOp .Eq) (rEqU K) := by subst h; exact op_eq.or (op_eqD hu)
theorem neK (h : X.K = K) (hu : X.A.units + 64 < cLine) : OpR X (compareOp .NotEq) (rNeU K) := by subst h; exact op_ne.or (op_neD hu)
theorem lenK (h : X.K = K) : CallR X (.builtin "len") (rLenU K) := by subst h; exact call_lenU
theorem tupK (h : X.K = K) : CallR X (.type "tuple") (rTupU K) := by subst h; exact call_tupU
theorem lstK (h : X.K = K) : CallR X (.type "list") (rLstU K) := by subst h; exact call_lstU
theorem allK (h : X.K = K) (hc : X.calm = true) : CallR X (.builtin "all") (rAll K) := by subst h; exact cr_all hc
theorem anyK (h : X.K = K) (hc : X.calm = true) : CallR X (.builtin "any") (rAny K) := by subst h; exact cr_any hc
theorem isiK (h : X.K = K) : CallR X (.builtin "isinstance") (rIsi K) := by subst h; exact call_isi
theorem reprK {k : Nat} (h : X.K = K) (hg : X.A.guards = some []) (hr : Room k X.A) : CallR X (.builtin "repr") (rRepr K) := by subst h; exact call_repr hg hr
def tTruK (K : PySem.W.Frag) (te : TE) : TT := fun σ H Q => te σ H fun x H' => ∃ k, TruV K x H' k ∧ Q k H'
theorem pt_truthK (h : X.K = K) {a : Expr} {ta : TE} (ha : PE X a ta) (he : ∀ whole, isTrue a X.env whole = (do let v ← whole; standAt a.pos; holding [v] (truthy v)) := by intro _; rfl) : PT X a (tTruK K ta) := by
  subst h; exact pt_truth ha he
theorem pe_orK (h : X.K = K) {a b : Expr} {rest : List Expr} {pos : Pos} {ta tb : TE} (ha : PE X a ta) (hb : PE X (.BoolOp .Or (b :: rest) pos) tb) : PE X (.BoolOp .Or (a :: b :: rest) pos) (tOrT K ta tb) := by subst h; exact pe_orT ha hb
theorem pe_andK (h : X.K = K) {a b : Expr} {rest : List Expr} {pos : Pos} {ta tb : TE} (ha : PE X a ta) (hb : PE X (.BoolOp .And (b :: rest) pos) tb) : PE X (.BoolOp .And (a :: b :: rest) pos) (tAndT K ta tb) := by subst h; exact pe_andT ha hb
theorem pi_lstK (h : X.K = K) {tg l : Expr} {tl : TE} (hl : PE X l tl) : PI X tg l (iList K tl) := by subst h; exact pi_list hl
theorem pi_tupK (h : X.K = K) {tg l : Expr} {tl : TE} (hl : PE X l tl) : PI X tg l (iTup K tl) := by subst h; exact pi_tup hl
theorem pe_joinK (h : X.K = K) {o e : Expr} {to te : TE} {apos pos : Pos} (ho : PE X o to) (he : PE X e te) (hs : starEach [e] X.env = [(false, eval e X.env)] := by rfl) (hbase : attributeBase o "join" X.env (eval o X.env) = eval o X.env := by rfl) (hline : (apos.endLine == pos.line) = true := by rfl) :
    PE X (.Call (.Attribute o "join" apos) [e] [] pos) (tM1 (rJoin K) to te) := by subst h; exact pe_join ho he hs hbase hline
theorem pe_splitK {o e : Expr} {to te : TE} {apos pos : Pos} (ho : PE X o to) (he : PE X e te) (hs : starEach [e] X.env = [(false, eval e X.env)] := by rfl) (hbase : attributeBase o "split" X.env (eval o X.env) = eval o X.env := by rfl) (hline : (apos.endLine == pos.line) = true := by rfl) :
    PE X (.Call (.Attribute o "split" apos) [e] [] pos) (tM1 rSplit to te) := pe_split ho he hs hbase hline
theorem evt_truK {G : Ga} {ta : TE} {ma : ME} (h : EvD G ta ma) : EvT G (tTruK G.K ta) (mTru ma) := evt_truth h
theorem pg_tupK (h : X.K = K) {es : List Expr} {k : Nat} {t : TGs} {n : Nat} {pos : Pos} (hc : X.calm = true) (hg : PGs X es t)
    (hn : (assignEach es X.env).length = n := by rfl) (hst : (assignEach es X.env).findIdx? (·.1) = none := by rfl) : PG X (.Tuple es k pos) (gTup K n t) := by subst h; exact pg_tup hc hg hn hst
end
end Dz

namespace Dz
open PySem PySem.Spec PyProof.Rows L2
/-! ### reckoning with mirrors -/
theorem isi_non_int (Q : D → Prop) : isiF [.non, .ty "int"] Q = Q (.bl false) := by
  show someD (kitB "NoneType" "int") (fun b => Q (.bl b)) = _
  rw [show kitB "NoneType" "int" = some false from by decide +kernel] <;> rfl
theorem isi_non_bool (Q : D → Prop) : isiF [.non, .ty "bool"] Q = Q (.bl false) := by
  show someD (kitB "NoneType" "bool") (fun b => Q (.bl b)) = _
  rw [show kitB "NoneType" "bool" = some false from by decide +kernel] <;> rfl
theorem isi_non_str (Q : D → Prop) : isiF [.non, .ty "str"] Q = Q (.bl false) := by
  show someD (kitB "NoneType" "str") (fun b => Q (.bl b)) = _
  rw [show kitB "NoneType" "str" = some false from by decide +kernel] <;> rfl
theorem isi_non_tuple (Q : D → Prop) : isiF [.non, .ty "tuple"] Q = Q (.bl false) := by
  show someD (kitB "NoneType" "tuple") (fun b => Q (.bl b)) = _
  rw [show kitB "NoneType" "tuple" = some false from by decide +kernel] <;> rfl
theorem isi_non_list (Q : D → Prop) : isiF [.non, .ty "list"] Q = Q (.bl false) := by
  show someD (kitB "NoneType" "list") (fun b => Q (.bl b)) = _
  rw [show kitB "NoneType" "list" = some false from by decide +kernel] <;> rfl
theorem isi_non_dict (Q : D → Prop) : isiF [.non, .ty "dict"] Q = Q (.bl false) := by
  show someD (kitB "NoneType" "dict") (fun b => Q (.bl b)) = _
  rw [show kitB "NoneType" "dict" = some false from by decide +kernel] <;> rfl
theorem isi_bl_int (x : Bool) (Q : D → Prop) : isiF [(.bl x), .ty "int"] Q = Q (.bl true) := by
  show someD (kitB "bool" "int") (fun b => Q (.bl b)) = _
  rw [show kitB "bool" "int" = some true from by decide +kernel] <;> rfl
theorem isi_bl_bool (x : Bool) (Q : D → Prop) : isiF [(.bl x), .ty "bool"] Q = Q (.bl true) := by
  show someD (kitB "bool" "bool") (fun b => Q (.bl b)) = _
  rw [show kitB "bool" "bool" = some true from by decide +kernel] <;> rfl
theorem isi_bl_str (x : Bool) (Q : D → Prop) : isiF [(.bl x), .ty "str"] Q = Q (.bl false) := by
  show someD (kitB "bool" "str") (fun b => Q (.bl b)) = _
  rw [show kitB "bool" "str" = some false from by decide +kernel] <;> rfl
theorem isi_bl_tuple (x : Bool) (Q : D → Prop) : isiF [(.bl x), .ty "tuple"] Q = Q (.bl false) := by
  show someD (kitB "bool" "tuple") (fun b => Q (.bl b)) = _
  rw [show kitB "bool" "tuple" = some false from by decide +kernel] <;> rfl
theorem isi_bl_list (x : Bool) (Q : D → Prop) : isiF [(.bl x), .ty "list"] Q = Q (.bl false) := by
  show someD (kitB "bool" "list") (fun b => Q (.bl b)) = _
  rw [show kitB "bool" "list" = some false from by decide +kernel] <;> rfl
theorem isi_bl_dict (x : Bool) (Q : D → Prop) : isiF [(.bl x), .ty "dict"] Q = Q (.bl false) := by
  show someD (kitB "bool" "dict") (fun b => Q (.bl b)) = _
  rw [show kitB "bool" "dict" = some false from by decide +kernel] <;> rfl
theorem isi_int_int (x : Int) (Q : D → Prop) : isiF [(.int x), .ty "int"] Q = Q (.bl true) := by
  show someD (kitB "int" "int") (fun b => Q (.bl b)) = _
  rw [show kitB "int" "int" = some true from by decide +kernel] <;> rfl
theorem isi_int_bool (x : Int) (Q : D → Prop) : isiF [(.int x), .ty "bool"] Q = Q (.bl false) := by
  show someD (kitB "int" "bool") (fun b => Q (.bl b)) = _
  rw [show kitB "int" "bool" = some false from by decide +kernel] <;> rfl
theorem isi_int_str (x : Int) (Q : D → Prop) : isiF [(.int x), .ty "str"] Q = Q (.bl false) := by
  show someD (kitB "int" "str") (fun b => Q (.bl b)) = _
  rw [show kitB "int" "str" = some false from by decide +kernel] <;> rfl
theorem isi_int_tuple (x : Int) (Q : D → Prop) : isiF [(.int x), .ty "tuple"] Q = Q (.bl false) := by
  show someD (kitB "int" "tuple") (fun b => Q (.bl b)) = _
  rw [show kitB "int" "tuple" = some false from by decide +kernel] <;> rfl
theorem isi_int_list (x : Int) (Q : D → Prop) : isiF [(.int x), .ty "list"] Q = Q (.bl false) := by
  show someD (kitB "int" "list") (fun b => Q (.bl b)) = _
  rw [show kitB "int" "list" = some false from by decide +kernel] <;> rfl
theorem isi_int_dict (x : Int) (Q : D → Prop) : isiF [(.int x), .ty "dict"] Q = Q (.bl false) := by
  show someD (kitB "int" "dict") (fun b => Q (.bl b)) = _
  rw [show kitB "int" "dict" = some false from by decide +kernel] <;> rfl
theorem isi_str_int (x : Str) (Q : D → Prop) : isiF [(.str x), .ty "int"] Q = Q (.bl false) := by
  show someD (kitB "str" "int") (fun b => Q (.bl b)) = _
  rw [show kitB "str" "int" = some false from by decide +kernel] <;> rfl
theorem isi_str_bool (x : Str) (Q : D → Prop) : isiF [(.str x), .ty "bool"] Q = Q (.bl false) := by
  show someD (kitB "str" "bool") (fun b => Q (.bl b)) = _
  rw [show kitB "str" "bool" = some false from by decide +kernel] <;> rfl
theorem isi_str_str (x : Str) (Q : D → Prop) : isiF [(.str x), .ty "str"] Q = Q (.bl true) := by
  show someD (kitB "str" "str") (fun b => Q (.bl b)) = _
  rw [show kitB "str" "str" = some true from by decide +kernel] <;> rfl
theorem isi_str_tuple (x : Str) (Q : D → Prop) : isiF [(.str x), .ty "tuple"] Q = Q (.bl false) := by
  show someD (kitB "str" "tuple") (fun b => Q (.bl b)) = _
  rw [show kitB "str" "tuple" = some false from by decide +kernel] <;> rfl
theorem isi_str_list (x : Str) (Q : D → Prop) : isiF [(.str x), .ty "list"] Q = Q (.bl false) := by
  show someD (kitB "str" "list") (fun b => Q (.bl b)) = _
  rw [show kitB "str" "list" = some false from by decide +kernel] <;> rfl
theorem isi_str_dict (x : Str) (Q : D → Prop) : isiF [(.str x), .ty "dict"] Q = Q (.bl false) := by
  show someD (kitB "str" "dict") (fun b => Q (.bl b)) = _
  rw [show kitB "str" "dict" = some false from by decide +kernel] <;> rfl
theorem isi_tup_int (x : List D) (Q : D → Prop) : isiF [(.tup x), .ty "int"] Q = Q (.bl false) := by
  show someD (kitB "tuple" "int") (fun b => Q (.bl b)) = _
  rw [show kitB "tuple" "int" = some false from by decide +kernel] <;> rfl
theorem isi_tup_bool (x : List D) (Q : D → Prop) : isiF [(.tup x), .ty "bool"] Q = Q (.bl false) := by
  show someD (kitB "tuple" "bool") (fun b => Q (.bl b)) = _
  rw [show kitB "tuple" "bool" = some false from by decide +kernel] <;> rfl
theorem isi_tup_str (x : List D) (Q : D → Prop) : isiF [(.tup x), .ty "str"] Q = Q (.bl false) := by
  show someD (kitB "tuple" "str") (fun b => Q (.bl b)) = _
  rw [show kitB "tuple" "str" = some false from by decide +kernel] <;> rfl
theorem isi_tup_tuple (x : List D) (Q : D → Prop) : isiF [(.tup x), .ty "tuple"] Q = Q (.bl true) := by
  show someD (kitB "tuple" "tuple") (fun b => Q (.bl b)) = _
  rw [show kitB "tuple" "tuple" = some true from by decide +kernel] <;> rfl
theorem isi_tup_list (x : List D) (Q : D → Prop) : isiF [(.tup x), .ty "list"] Q = Q (.bl false) := by
  show someD (kitB "tuple" "list") (fun b => Q (.bl b)) = _
  rw [show kitB "tuple" "list" = some false from by decide +kernel] <;> rfl
theorem isi_tup_dict (x : List D) (Q : D → Prop) : isiF [(.tup x), .ty "dict"] Q = Q (.bl false) := by
  show someD (kitB "tuple" "dict") (fun b => Q (.bl b)) = _
  rw [show kitB "tuple" "dict" = some false from by decide +kernel] <;> rfl
theorem isi_lst_int (x : List D) (Q : D → Prop) : isiF [(.lst x), .ty "int"] Q = Q (.bl false) := by
  show someD (kitB "list" "int") (fun b => Q (.bl b)) = _
  rw [show kitB "list" "int" = some false from by decide +kernel] <;> rfl
theorem isi_lst_bool (x : List D) (Q : D → Prop) : isiF [(.lst x), .ty "bool"] Q = Q (.bl false) := by
  show someD (kitB "list" "bool") (fun b => Q (.bl b)) = _
  rw [show kitB "list" "bool" = some false from by decide +kernel] <;> rfl
theorem isi_lst_str (x : List D) (Q : D → Prop) : isiF [(.lst x), .ty "str"] Q = Q (.bl false) := by
  show someD (kitB "list" "str") (fun b => Q (.bl b)) = _
  rw [show kitB "list" "str" = some false from by decide +kernel] <;> rfl
theorem isi_lst_tuple (x : List D) (Q : D → Prop) : isiF [(.lst x), .ty "tuple"] Q = Q (.bl false) := by
  show someD (kitB "list" "tuple") (fun b => Q (.bl b)) = _
  rw [show kitB "list" "tuple" = some false from by decide +kernel] <;> rfl
theorem isi_lst_list (x : List D) (Q : D → Prop) : isiF [(.lst x), .ty "list"] Q = Q (.bl true) := by
  show someD (kitB "list" "list") (fun b => Q (.bl b)) = _
  rw [show kitB "list" "list" = some true from by decide +kernel] <;> rfl
theorem isi_lst_dict (x : List D) (Q : D → Prop) : isiF [(.lst x), .ty "dict"] Q = Q (.bl false) := by
  show someD (kitB "list" "dict") (fun b => Q (.bl b)) = _
  rw [show kitB "list" "dict" = some false from by decide +kernel] <;> rfl
theorem isi_dic_int (x : List (Key × D)) (Q : D → Prop) : isiF [(.dic x), .ty "int"] Q = Q (.bl false) := by
  show someD (kitB "dict" "int") (fun b => Q (.bl b)) = _
  rw [show kitB "dict" "int" = some false from by decide +kernel] <;> rfl
theorem isi_dic_bool (x : List (Key × D)) (Q : D → Prop) : isiF [(.dic x), .ty "bool"] Q = Q (.bl false) := by
  show someD (kitB "dict" "bool") (fun b => Q (.bl b)) = _
  rw [show kitB "dict" "bool" = some false from by decide +kernel] <;> rfl
theorem isi_dic_str (x : List (Key × D)) (Q : D → Prop) : isiF [(.dic x), .ty "str"] Q = Q (.bl false) := by
  show someD (kitB "dict" "str") (fun b => Q (.bl b)) = _
  rw [show kitB "dict" "str" = some false from by decide +kernel] <;> rfl
theorem isi_dic_tuple (x : List (Key × D)) (Q : D → Prop) : isiF [(.dic x), .ty "tuple"] Q = Q (.bl false) := by
  show someD (kitB "dict" "tuple") (fun b => Q (.bl b)) = _
  rw [show kitB "dict" "tuple" = some false from by decide +kernel] <;> rfl
theorem isi_dic_list (x : List (Key × D)) (Q : D → Prop) : isiF [(.dic x), .ty "list"] Q = Q (.bl false) := by
  show someD (kitB "dict" "list") (fun b => Q (.bl b)) = _
  rw [show kitB "dict" "list" = some false from by decide +kernel] <;> rfl
theorem isi_dic_dict (x : List (Key × D)) (Q : D → Prop) : isiF [(.dic x), .ty "dict"] Q = Q (.bl true) := by
  show someD (kitB "dict" "dict") (fun b => Q (.bl b)) = _
  rw [show kitB "dict" "dict" = some true from by decide +kernel] <;> rfl
/-! ### one step of a mirror, as an equation (by propext: the kernel has nothing to unfold) -/
def rngQ (ds : List D) (Q : List D → Prop) : Prop := match ds with
  | [.int n] => n < 2 ^ 62 ∧ -(2 ^ 62) ≤ n ∧ Q (upTo n.toNat)
  | _ => False
theorem e_rng1 (m : MA) (ρ : Rho) (Q : List D → Prop) : miRng1 m ρ Q = (m ρ fun ds => rngQ ds Q) := propext Iff.rfl
theorem e_rngQ (n : Int) (Q : List D → Prop) : rngQ [.int n] Q = (n < 2 ^ 62 ∧ -(2 ^ 62) ≤ n ∧ Q (upTo n.toNat)) := propext Iff.rfl
theorem e_seq (a b : MS) (n : Rho → Prop) (r : D → Prop) (k c : Rho → Prop) (ρ : Rho) : sSeq a b ⟨n, r, k, c⟩ ρ = (a ⟨fun ρ' => b ⟨n, r, k, c⟩ ρ', r, k, c⟩ ρ) := propext Iff.rfl
theorem e_next (n : Rho → Prop) (r : D → Prop) (k c : Rho → Prop) (ρ : Rho) : sNext ⟨n, r, k, c⟩ ρ = (n ρ) := propext Iff.rfl
theorem e_brk (n : Rho → Prop) (r : D → Prop) (k c : Rho → Prop) (ρ : Rho) : sBrk ⟨n, r, k, c⟩ ρ = (k ρ) := propext Iff.rfl
theorem e_cont (n : Rho → Prop) (r : D → Prop) (k c : Rho → Prop) (ρ : Rho) : sCont ⟨n, r, k, c⟩ ρ = (c ρ) := propext Iff.rfl
theorem e_drop (m : ME) (n : Rho → Prop) (r : D → Prop) (k c : Rho → Prop) (ρ : Rho) : sDrop m ⟨n, r, k, c⟩ ρ = (m ρ fun _ => n ρ) := propext Iff.rfl
theorem e_ifS (t : MT) (a b : MS) (n : Rho → Prop) (r : D → Prop) (k c : Rho → Prop) (ρ : Rho) : sIf t a b ⟨n, r, k, c⟩ ρ = (t ρ fun x => if x = true then a ⟨n, r, k, c⟩ ρ else b ⟨n, r, k, c⟩ ρ) := propext Iff.rfl
theorem e_asg (m : ME) (g : MG) (n : Rho → Prop) (r : D → Prop) (k c : Rho → Prop) (ρ : Rho) : sAsg m g ⟨n, r, k, c⟩ ρ = (m ρ fun d => g d ρ n) := propext Iff.rfl
theorem e_par (i j : Nat) (m : MA) (n : Rho → Prop) (r : D → Prop) (k c : Rho → Prop) (ρ : Rho) : sPar i j m ⟨n, r, k, c⟩ ρ = (m ρ fun ds => two ds fun d e => n ((ρ.set i (.val d)).set j (.val e))) := propext Iff.rfl
theorem e_ret (m : ME) (n : Rho → Prop) (r : D → Prop) (k c : Rho → Prop) (ρ : Rho) : sRet m ⟨n, r, k, c⟩ ρ = (m ρ r) := propext Iff.rfl
theorem e_retN (n : Rho → Prop) (r : D → Prop) (k c : Rho → Prop) (ρ : Rho) : sRetN ⟨n, r, k, c⟩ ρ = (r .non) := propext Iff.rfl
theorem e_for (m : MA) (g : MG) (b : MS) (n : Rho → Prop) (r : D → Prop) (k c : Rho → Prop) (ρ : Rho) : sFor m g b ⟨n, r, k, c⟩ ρ = (m ρ fun ds => forM g b ⟨n, r, k, c⟩ ds ρ) := propext Iff.rfl
theorem e_run1 (m : Nat) (s : MS) (x0 : D) (Q : D → Prop) : runM m s [x0] Q = (s ⟨fun _ => Q .non, Q, fun _ => False, fun _ => False⟩ (Slot.val x0 :: List.replicate (m - 1) Slot.no)) := propext Iff.rfl
theorem e_run2 (m : Nat) (s : MS) (x0 x1 : D) (Q : D → Prop) : runM m s [x0, x1] Q = (s ⟨fun _ => Q .non, Q, fun _ => False, fun _ => False⟩ (Slot.val x0 :: Slot.val x1 :: List.replicate (m - 2) Slot.no)) := propext Iff.rfl
theorem e_run3 (m : Nat) (s : MS) (x0 x1 x2 : D) (Q : D → Prop) : runM m s [x0, x1, x2] Q = (s ⟨fun _ => Q .non, Q, fun _ => False, fun _ => False⟩ (Slot.val x0 :: Slot.val x1 :: Slot.val x2 :: List.replicate (m - 3) Slot.no)) := propext Iff.rfl
theorem e_run4 (m : Nat) (s : MS) (x0 x1 x2 x3 : D) (Q : D → Prop) : runM m s [x0, x1, x2, x3] Q = (s ⟨fun _ => Q .non, Q, fun _ => False, fun _ => False⟩ (Slot.val x0 :: Slot.val x1 :: Slot.val x2 :: Slot.val x3 :: List.replicate (m - 4) Slot.no)) := propext Iff.rfl
theorem e_run5 (m : Nat) (s : MS) (x0 x1 x2 x3 x4 : D) (Q : D → Prop) : runM m s [x0, x1, x2, x3, x4] Q = (s ⟨fun _ => Q .non, Q, fun _ => False, fun _ => False⟩ (Slot.val x0 :: Slot.val x1 :: Slot.val x2 :: Slot.val x3 :: Slot.val x4 :: List.replicate (m - 5) Slot.no)) := propext Iff.rfl
theorem e_run6 (m : Nat) (s : MS) (x0 x1 x2 x3 x4 x5 : D) (Q : D → Prop) : runM m s [x0, x1, x2, x3, x4, x5] Q = (s ⟨fun _ => Q .non, Q, fun _ => False, fun _ => False⟩ (Slot.val x0 :: Slot.val x1 :: Slot.val x2 :: Slot.val x3 :: Slot.val x4 :: Slot.val x5 :: List.replicate (m - 6) Slot.no)) := propext Iff.rfl
theorem e_run7 (m : Nat) (s : MS) (x0 x1 x2 x3 x4 x5 x6 : D) (Q : D → Prop) : runM m s [x0, x1, x2, x3, x4, x5, x6] Q = (s ⟨fun _ => Q .non, Q, fun _ => False, fun _ => False⟩ (Slot.val x0 :: Slot.val x1 :: Slot.val x2 :: Slot.val x3 :: Slot.val x4 :: Slot.val x5 :: Slot.val x6 :: List.replicate (m - 7) Slot.no)) := propext Iff.rfl
theorem e_run8 (m : Nat) (s : MS) (x0 x1 x2 x3 x4 x5 x6 x7 : D) (Q : D → Prop) : runM m s [x0, x1, x2, x3, x4, x5, x6, x7] Q = (s ⟨fun _ => Q .non, Q, fun _ => False, fun _ => False⟩ (Slot.val x0 :: Slot.val x1 :: Slot.val x2 :: Slot.val x3 :: Slot.val x4 :: Slot.val x5 :: Slot.val x6 :: Slot.val x7 :: List.replicate (m - 8) Slot.no)) := propext Iff.rfl
theorem e_rep0  : List.replicate 0 Slot.no = (([] : List Slot)) := rfl
theorem e_rep1  : List.replicate 1 Slot.no = ([Slot.no]) := rfl
theorem e_rep2  : List.replicate 2 Slot.no = ([Slot.no, Slot.no]) := rfl
theorem e_rep3  : List.replicate 3 Slot.no = ([Slot.no, Slot.no, Slot.no]) := rfl
theorem e_rep4  : List.replicate 4 Slot.no = ([Slot.no, Slot.no, Slot.no, Slot.no]) := rfl
theorem e_rep5  : List.replicate 5 Slot.no = ([Slot.no, Slot.no, Slot.no, Slot.no, Slot.no]) := rfl
theorem e_rep6  : List.replicate 6 Slot.no = ([Slot.no, Slot.no, Slot.no, Slot.no, Slot.no, Slot.no]) := rfl
theorem e_rep7  : List.replicate 7 Slot.no = ([Slot.no, Slot.no, Slot.no, Slot.no, Slot.no, Slot.no, Slot.no]) := rfl
theorem e_rep8  : List.replicate 8 Slot.no = ([Slot.no, Slot.no, Slot.no, Slot.no, Slot.no, Slot.no, Slot.no, Slot.no]) := rfl
theorem e_rep9  : List.replicate 9 Slot.no = ([Slot.no, Slot.no, Slot.no, Slot.no, Slot.no, Slot.no, Slot.no, Slot.no, Slot.no]) := rfl
theorem e_rep10  : List.replicate 10 Slot.no = ([Slot.no, Slot.no, Slot.no, Slot.no, Slot.no, Slot.no, Slot.no, Slot.no, Slot.no, Slot.no]) := rfl
theorem e_rep11  : List.replicate 11 Slot.no = ([Slot.no, Slot.no, Slot.no, Slot.no, Slot.no, Slot.no, Slot.no, Slot.no, Slot.no, Slot.no, Slot.no]) := rfl
theorem e_rep12  : List.replicate 12 Slot.no = ([Slot.no, Slot.no, Slot.no, Slot.no, Slot.no, Slot.no, Slot.no, Slot.no, Slot.no, Slot.no, Slot.no, Slot.no]) := rfl
theorem e_rep13  : List.replicate 13 Slot.no = ([Slot.no, Slot.no, Slot.no, Slot.no, Slot.no, Slot.no, Slot.no, Slot.no, Slot.no, Slot.no, Slot.no, Slot.no, Slot.no]) := rfl
theorem e_rep14  : List.replicate 14 Slot.no = ([Slot.no, Slot.no, Slot.no, Slot.no, Slot.no, Slot.no, Slot.no, Slot.no, Slot.no, Slot.no, Slot.no, Slot.no, Slot.no, Slot.no]) := rfl
theorem e_rep15  : List.replicate 15 Slot.no = ([Slot.no, Slot.no, Slot.no, Slot.no, Slot.no, Slot.no, Slot.no, Slot.no, Slot.no, Slot.no, Slot.no, Slot.no, Slot.no, Slot.no, Slot.no]) := rfl
theorem e_rep16  : List.replicate 16 Slot.no = ([Slot.no, Slot.no, Slot.no, Slot.no, Slot.no, Slot.no, Slot.no, Slot.no, Slot.no, Slot.no, Slot.no, Slot.no, Slot.no, Slot.no, Slot.no, Slot.no]) := rfl
theorem e_rep17  : List.replicate 17 Slot.no = ([Slot.no, Slot.no, Slot.no, Slot.no, Slot.no, Slot.no, Slot.no, Slot.no, Slot.no, Slot.no, Slot.no, Slot.no, Slot.no, Slot.no, Slot.no, Slot.no, Slot.no]) := rfl
theorem e_rep18  : List.replicate 18 Slot.no = ([Slot.no, Slot.no, Slot.no, Slot.no, Slot.no, Slot.no, Slot.no, Slot.no, Slot.no, Slot.no, Slot.no, Slot.no, Slot.no, Slot.no, Slot.no, Slot.no, Slot.no, Slot.no]) := rfl
theorem e_rep19  : List.replicate 19 Slot.no = ([Slot.no, Slot.no, Slot.no, Slot.no, Slot.no, Slot.no, Slot.no, Slot.no, Slot.no, Slot.no, Slot.no, Slot.no, Slot.no, Slot.no, Slot.no, Slot.no, Slot.no, Slot.no, Slot.no]) := rfl
theorem e_rep20  : List.replicate 20 Slot.no = ([Slot.no, Slot.no, Slot.no, Slot.no, Slot.no, Slot.no, Slot.no, Slot.no, Slot.no, Slot.no, Slot.no, Slot.no, Slot.no, Slot.no, Slot.no, Slot.no, Slot.no, Slot.no, Slot.no, Slot.no]) := rfl
theorem e_rep21  : List.replicate 21 Slot.no = ([Slot.no, Slot.no, Slot.no, Slot.no, Slot.no, Slot.no, Slot.no, Slot.no, Slot.no, Slot.no, Slot.no, Slot.no, Slot.no, Slot.no, Slot.no, Slot.no, Slot.no, Slot.no, Slot.no, Slot.no, Slot.no]) := rfl
theorem e_rep22  : List.replicate 22 Slot.no = ([Slot.no, Slot.no, Slot.no, Slot.no, Slot.no, Slot.no, Slot.no, Slot.no, Slot.no, Slot.no, Slot.no, Slot.no, Slot.no, Slot.no, Slot.no, Slot.no, Slot.no, Slot.no, Slot.no, Slot.no, Slot.no, Slot.no]) := rfl
theorem e_rep23  : List.replicate 23 Slot.no = ([Slot.no, Slot.no, Slot.no, Slot.no, Slot.no, Slot.no, Slot.no, Slot.no, Slot.no, Slot.no, Slot.no, Slot.no, Slot.no, Slot.no, Slot.no, Slot.no, Slot.no, Slot.no, Slot.no, Slot.no, Slot.no, Slot.no, Slot.no]) := rfl
theorem e_rep24  : List.replicate 24 Slot.no = ([Slot.no, Slot.no, Slot.no, Slot.no, Slot.no, Slot.no, Slot.no, Slot.no, Slot.no, Slot.no, Slot.no, Slot.no, Slot.no, Slot.no, Slot.no, Slot.no, Slot.no, Slot.no, Slot.no, Slot.no, Slot.no, Slot.no, Slot.no, Slot.no]) := rfl
theorem e_rep25  : List.replicate 25 Slot.no = ([Slot.no, Slot.no, Slot.no, Slot.no, Slot.no, Slot.no, Slot.no, Slot.no, Slot.no, Slot.no, Slot.no, Slot.no, Slot.no, Slot.no, Slot.no, Slot.no, Slot.no, Slot.no, Slot.no, Slot.no, Slot.no, Slot.no, Slot.no, Slot.no, Slot.no]) := rfl
theorem e_v0 (d : D) (ρ : Rho) (Q : D → Prop) : mVar 0 (Slot.val d :: ρ) Q = (Q d) := propext Iff.rfl
theorem e_s0 (s x : Slot) (ρ : Rho) : List.set (s :: ρ) 0 x = (x :: ρ) := rfl
theorem e_v1 (s0 : Slot) (d : D) (ρ : Rho) (Q : D → Prop) : mVar 1 (s0 :: Slot.val d :: ρ) Q = (Q d) := propext Iff.rfl
theorem e_s1 (s0 : Slot) (s x : Slot) (ρ : Rho) : List.set (s0 :: s :: ρ) 1 x = (s0 :: x :: ρ) := rfl
theorem e_v2 (s0 s1 : Slot) (d : D) (ρ : Rho) (Q : D → Prop) : mVar 2 (s0 :: s1 :: Slot.val d :: ρ) Q = (Q d) := propext Iff.rfl
theorem e_s2 (s0 s1 : Slot) (s x : Slot) (ρ : Rho) : List.set (s0 :: s1 :: s :: ρ) 2 x = (s0 :: s1 :: x :: ρ) := rfl
theorem e_v3 (s0 s1 s2 : Slot) (d : D) (ρ : Rho) (Q : D → Prop) : mVar 3 (s0 :: s1 :: s2 :: Slot.val d :: ρ) Q = (Q d) := propext Iff.rfl
theorem e_s3 (s0 s1 s2 : Slot) (s x : Slot) (ρ : Rho) : List.set (s0 :: s1 :: s2 :: s :: ρ) 3 x = (s0 :: s1 :: s2 :: x :: ρ) := rfl
theorem e_v4 (s0 s1 s2 s3 : Slot) (d : D) (ρ : Rho) (Q : D → Prop) : mVar 4 (s0 :: s1 :: s2 :: s3 :: Slot.val d :: ρ) Q = (Q d) := propext Iff.rfl
theorem e_s4 (s0 s1 s2 s3 : Slot) (s x : Slot) (ρ : Rho) : List.set (s0 :: s1 :: s2 :: s3 :: s :: ρ) 4 x = (s0 :: s1 :: s2 :: s3 :: x :: ρ) := rfl
theorem e_v5 (s0 s1 s2 s3 s4 : Slot) (d : D) (ρ : Rho) (Q : D → Prop) : mVar 5 (s0 :: s1 :: s2 :: s3 :: s4 :: Slot.val d :: ρ) Q = (Q d) := propext Iff.rfl
theorem e_s5 (s0 s1 s2 s3 s4 : Slot) (s x : Slot) (ρ : Rho) : List.set (s0 :: s1 :: s2 :: s3 :: s4 :: s :: ρ) 5 x = (s0 :: s1 :: s2 :: s3 :: s4 :: x :: ρ) := rfl
theorem e_v6 (s0 s1 s2 s3 s4 s5 : Slot) (d : D) (ρ : Rho) (Q : D → Prop) : mVar 6 (s0 :: s1 :: s2 :: s3 :: s4 :: s5 :: Slot.val d :: ρ) Q = (Q d) := propext Iff.rfl
theorem e_s6 (s0 s1 s2 s3 s4 s5 : Slot) (s x : Slot) (ρ : Rho) : List.set (s0 :: s1 :: s2 :: s3 :: s4 :: s5 :: s :: ρ) 6 x = (s0 :: s1 :: s2 :: s3 :: s4 :: s5 :: x :: ρ) := rfl
theorem e_v7 (s0 s1 s2 s3 s4 s5 s6 : Slot) (d : D) (ρ : Rho) (Q : D → Prop) : mVar 7 (s0 :: s1 :: s2 :: s3 :: s4 :: s5 :: s6 :: Slot.val d :: ρ) Q = (Q d) := propext Iff.rfl
theorem e_s7 (s0 s1 s2 s3 s4 s5 s6 : Slot) (s x : Slot) (ρ : Rho) : List.set (s0 :: s1 :: s2 :: s3 :: s4 :: s5 :: s6 :: s :: ρ) 7 x = (s0 :: s1 :: s2 :: s3 :: s4 :: s5 :: s6 :: x :: ρ) := rfl
theorem e_v8 (s0 s1 s2 s3 s4 s5 s6 s7 : Slot) (d : D) (ρ : Rho) (Q : D → Prop) : mVar 8 (s0 :: s1 :: s2 :: s3 :: s4 :: s5 :: s6 :: s7 :: Slot.val d :: ρ) Q = (Q d) := propext Iff.rfl
theorem e_s8 (s0 s1 s2 s3 s4 s5 s6 s7 : Slot) (s x : Slot) (ρ : Rho) : List.set (s0 :: s1 :: s2 :: s3 :: s4 :: s5 :: s6 :: s7 :: s :: ρ) 8 x = (s0 :: s1 :: s2 :: s3 :: s4 :: s5 :: s6 :: s7 :: x :: ρ) := rfl
theorem e_v9 (s0 s1 s2 s3 s4 s5 s6 s7 s8 : Slot) (d : D) (ρ : Rho) (Q : D → Prop) : mVar 9 (s0 :: s1 :: s2 :: s3 :: s4 :: s5 :: s6 :: s7 :: s8 :: Slot.val d :: ρ) Q = (Q d) := propext Iff.rfl
theorem e_s9 (s0 s1 s2 s3 s4 s5 s6 s7 s8 : Slot) (s x : Slot) (ρ : Rho) : List.set (s0 :: s1 :: s2 :: s3 :: s4 :: s5 :: s6 :: s7 :: s8 :: s :: ρ) 9 x = (s0 :: s1 :: s2 :: s3 :: s4 :: s5 :: s6 :: s7 :: s8 :: x :: ρ) := rfl
theorem e_v10 (s0 s1 s2 s3 s4 s5 s6 s7 s8 s9 : Slot) (d : D) (ρ : Rho) (Q : D → Prop) : mVar 10 (s0 :: s1 :: s2 :: s3 :: s4 :: s5 :: s6 :: s7 :: s8 :: s9 :: Slot.val d :: ρ) Q = (Q d) := propext Iff.rfl
theorem e_s10 (s0 s1 s2 s3 s4 s5 s6 s7 s8 s9 : Slot) (s x : Slot) (ρ : Rho) : List.set (s0 :: s1 :: s2 :: s3 :: s4 :: s5 :: s6 :: s7 :: s8 :: s9 :: s :: ρ) 10 x = (s0 :: s1 :: s2 :: s3 :: s4 :: s5 :: s6 :: s7 :: s8 :: s9 :: x :: ρ) := rfl
theorem e_v11 (s0 s1 s2 s3 s4 s5 s6 s7 s8 s9 s10 : Slot) (d : D) (ρ : Rho) (Q : D → Prop) : mVar 11 (s0 :: s1 :: s2 :: s3 :: s4 :: s5 :: s6 :: s7 :: s8 :: s9 :: s10 :: Slot.val d :: ρ) Q = (Q d) := propext Iff.rfl
theorem e_s11 (s0 s1 s2 s3 s4 s5 s6 s7 s8 s9 s10 : Slot) (s x : Slot) (ρ : Rho) : List.set (s0 :: s1 :: s2 :: s3 :: s4 :: s5 :: s6 :: s7 :: s8 :: s9 :: s10 :: s :: ρ) 11 x = (s0 :: s1 :: s2 :: s3 :: s4 :: s5 :: s6 :: s7 :: s8 :: s9 :: s10 :: x :: ρ) := rfl
theorem e_v12 (s0 s1 s2 s3 s4 s5 s6 s7 s8 s9 s10 s11 : Slot) (d : D) (ρ : Rho) (Q : D → Prop) : mVar 12 (s0 :: s1 :: s2 :: s3 :: s4 :: s5 :: s6 :: s7 :: s8 :: s9 :: s10 :: s11 :: Slot.val d :: ρ) Q = (Q d) := propext Iff.rfl
theorem e_s12 (s0 s1 s2 s3 s4 s5 s6 s7 s8 s9 s10 s11 : Slot) (s x : Slot) (ρ : Rho) : List.set (s0 :: s1 :: s2 :: s3 :: s4 :: s5 :: s6 :: s7 :: s8 :: s9 :: s10 :: s11 :: s :: ρ) 12 x = (s0 :: s1 :: s2 :: s3 :: s4 :: s5 :: s6 :: s7 :: s8 :: s9 :: s10 :: s11 :: x :: ρ) := rfl
theorem e_v13 (s0 s1 s2 s3 s4 s5 s6 s7 s8 s9 s10 s11 s12 : Slot) (d : D) (ρ : Rho) (Q : D → Prop) : mVar 13 (s0 :: s1 :: s2 :: s3 :: s4 :: s5 :: s6 :: s7 :: s8 :: s9 :: s10 :: s11 :: s12 :: Slot.val d :: ρ) Q = (Q d) := propext Iff.rfl
theorem e_s13 (s0 s1 s2 s3 s4 s5 s6 s7 s8 s9 s10 s11 s12 : Slot) (s x : Slot) (ρ : Rho) : List.set (s0 :: s1 :: s2 :: s3 :: s4 :: s5 :: s6 :: s7 :: s8 :: s9 :: s10 :: s11 :: s12 :: s :: ρ) 13 x = (s0 :: s1 :: s2 :: s3 :: s4 :: s5 :: s6 :: s7 :: s8 :: s9 :: s10 :: s11 :: s12 :: x :: ρ) := rfl
theorem e_v14 (s0 s1 s2 s3 s4 s5 s6 s7 s8 s9 s10 s11 s12 s13 : Slot) (d : D) (ρ : Rho) (Q : D → Prop) : mVar 14 (s0 :: s1 :: s2 :: s3 :: s4 :: s5 :: s6 :: s7 :: s8 :: s9 :: s10 :: s11 :: s12 :: s13 :: Slot.val d :: ρ) Q = (Q d) := propext Iff.rfl
theorem e_s14 (s0 s1 s2 s3 s4 s5 s6 s7 s8 s9 s10 s11 s12 s13 : Slot) (s x : Slot) (ρ : Rho) : List.set (s0 :: s1 :: s2 :: s3 :: s4 :: s5 :: s6 :: s7 :: s8 :: s9 :: s10 :: s11 :: s12 :: s13 :: s :: ρ) 14 x = (s0 :: s1 :: s2 :: s3 :: s4 :: s5 :: s6 :: s7 :: s8 :: s9 :: s10 :: s11 :: s12 :: s13 :: x :: ρ) := rfl
theorem e_v15 (s0 s1 s2 s3 s4 s5 s6 s7 s8 s9 s10 s11 s12 s13 s14 : Slot) (d : D) (ρ : Rho) (Q : D → Prop) : mVar 15 (s0 :: s1 :: s2 :: s3 :: s4 :: s5 :: s6 :: s7 :: s8 :: s9 :: s10 :: s11 :: s12 :: s13 :: s14 :: Slot.val d :: ρ) Q = (Q d) := propext Iff.rfl
theorem e_s15 (s0 s1 s2 s3 s4 s5 s6 s7 s8 s9 s10 s11 s12 s13 s14 : Slot) (s x : Slot) (ρ : Rho) : List.set (s0 :: s1 :: s2 :: s3 :: s4 :: s5 :: s6 :: s7 :: s8 :: s9 :: s10 :: s11 :: s12 :: s13 :: s14 :: s :: ρ) 15 x = (s0 :: s1 :: s2 :: s3 :: s4 :: s5 :: s6 :: s7 :: s8 :: s9 :: s10 :: s11 :: s12 :: s13 :: s14 :: x :: ρ) := rfl
theorem e_v16 (s0 s1 s2 s3 s4 s5 s6 s7 s8 s9 s10 s11 s12 s13 s14 s15 : Slot) (d : D) (ρ : Rho) (Q : D → Prop) : mVar 16 (s0 :: s1 :: s2 :: s3 :: s4 :: s5 :: s6 :: s7 :: s8 :: s9 :: s10 :: s11 :: s12 :: s13 :: s14 :: s15 :: Slot.val d :: ρ) Q = (Q d) := propext Iff.rfl
theorem e_s16 (s0 s1 s2 s3 s4 s5 s6 s7 s8 s9 s10 s11 s12 s13 s14 s15 : Slot) (s x : Slot) (ρ : Rho) : List.set (s0 :: s1 :: s2 :: s3 :: s4 :: s5 :: s6 :: s7 :: s8 :: s9 :: s10 :: s11 :: s12 :: s13 :: s14 :: s15 :: s :: ρ) 16 x = (s0 :: s1 :: s2 :: s3 :: s4 :: s5 :: s6 :: s7 :: s8 :: s9 :: s10 :: s11 :: s12 :: s13 :: s14 :: s15 :: x :: ρ) := rfl
theorem e_v17 (s0 s1 s2 s3 s4 s5 s6 s7 s8 s9 s10 s11 s12 s13 s14 s15 s16 : Slot) (d : D) (ρ : Rho) (Q : D → Prop) : mVar 17 (s0 :: s1 :: s2 :: s3 :: s4 :: s5 :: s6 :: s7 :: s8 :: s9 :: s10 :: s11 :: s12 :: s13 :: s14 :: s15 :: s16 :: Slot.val d :: ρ) Q = (Q d) := propext Iff.rfl
theorem e_s17 (s0 s1 s2 s3 s4 s5 s6 s7 s8 s9 s10 s11 s12 s13 s14 s15 s16 : Slot) (s x : Slot) (ρ : Rho) : List.set (s0 :: s1 :: s2 :: s3 :: s4 :: s5 :: s6 :: s7 :: s8 :: s9 :: s10 :: s11 :: s12 :: s13 :: s14 :: s15 :: s16 :: s :: ρ) 17 x = (s0 :: s1 :: s2 :: s3 :: s4 :: s5 :: s6 :: s7 :: s8 :: s9 :: s10 :: s11 :: s12 :: s13 :: s14 :: s15 :: s16 :: x :: ρ) := rfl
theorem e_v18 (s0 s1 s2 s3 s4 s5 s6 s7 s8 s9 s10 s11 s12 s13 s14 s15 s16 s17 : Slot) (d : D) (ρ : Rho) (Q : D → Prop) : mVar 18 (s0 :: s1 :: s2 :: s3 :: s4 :: s5 :: s6 :: s7 :: s8 :: s9 :: s10 :: s11 :: s12 :: s13 :: s14 :: s15 :: s16 :: s17 :: Slot.val d :: ρ) Q = (Q d) := propext Iff.rfl
theorem e_s18 (s0 s1 s2 s3 s4 s5 s6 s7 s8 s9 s10 s11 s12 s13 s14 s15 s16 s17 : Slot) (s x : Slot) (ρ : Rho) : List.set (s0 :: s1 :: s2 :: s3 :: s4 :: s5 :: s6 :: s7 :: s8 :: s9 :: s10 :: s11 :: s12 :: s13 :: s14 :: s15 :: s16 :: s17 :: s :: ρ) 18 x = (s0 :: s1 :: s2 :: s3 :: s4 :: s5 :: s6 :: s7 :: s8 :: s9 :: s10 :: s11 :: s12 :: s13 :: s14 :: s15 :: s16 :: s17 :: x :: ρ) := rfl
theorem e_v19 (s0 s1 s2 s3 s4 s5 s6 s7 s8 s9 s10 s11 s12 s13 s14 s15 s16 s17 s18 : Slot) (d : D) (ρ : Rho) (Q : D → Prop) : mVar 19 (s0 :: s1 :: s2 :: s3 :: s4 :: s5 :: s6 :: s7 :: s8 :: s9 :: s10 :: s11 :: s12 :: s13 :: s14 :: s15 :: s16 :: s17 :: s18 :: Slot.val d :: ρ) Q = (Q d) := propext Iff.rfl
theorem e_s19 (s0 s1 s2 s3 s4 s5 s6 s7 s8 s9 s10 s11 s12 s13 s14 s15 s16 s17 s18 : Slot) (s x : Slot) (ρ : Rho) : List.set (s0 :: s1 :: s2 :: s3 :: s4 :: s5 :: s6 :: s7 :: s8 :: s9 :: s10 :: s11 :: s12 :: s13 :: s14 :: s15 :: s16 :: s17 :: s18 :: s :: ρ) 19 x = (s0 :: s1 :: s2 :: s3 :: s4 :: s5 :: s6 :: s7 :: s8 :: s9 :: s10 :: s11 :: s12 :: s13 :: s14 :: s15 :: s16 :: s17 :: s18 :: x :: ρ) := rfl
theorem e_v20 (s0 s1 s2 s3 s4 s5 s6 s7 s8 s9 s10 s11 s12 s13 s14 s15 s16 s17 s18 s19 : Slot) (d : D) (ρ : Rho) (Q : D → Prop) : mVar 20 (s0 :: s1 :: s2 :: s3 :: s4 :: s5 :: s6 :: s7 :: s8 :: s9 :: s10 :: s11 :: s12 :: s13 :: s14 :: s15 :: s16 :: s17 :: s18 :: s19 :: Slot.val d :: ρ) Q = (Q d) := propext Iff.rfl
theorem e_s20 (s0 s1 s2 s3 s4 s5 s6 s7 s8 s9 s10 s11 s12 s13 s14 s15 s16 s17 s18 s19 : Slot) (s x : Slot) (ρ : Rho) : List.set (s0 :: s1 :: s2 :: s3 :: s4 :: s5 :: s6 :: s7 :: s8 :: s9 :: s10 :: s11 :: s12 :: s13 :: s14 :: s15 :: s16 :: s17 :: s18 :: s19 :: s :: ρ) 20 x = (s0 :: s1 :: s2 :: s3 :: s4 :: s5 :: s6 :: s7 :: s8 :: s9 :: s10 :: s11 :: s12 :: s13 :: s14 :: s15 :: s16 :: s17 :: s18 :: s19 :: x :: ρ) := rfl
theorem e_v21 (s0 s1 s2 s3 s4 s5 s6 s7 s8 s9 s10 s11 s12 s13 s14 s15 s16 s17 s18 s19 s20 : Slot) (d : D) (ρ : Rho) (Q : D → Prop) : mVar 21 (s0 :: s1 :: s2 :: s3 :: s4 :: s5 :: s6 :: s7 :: s8 :: s9 :: s10 :: s11 :: s12 :: s13 :: s14 :: s15 :: s16 :: s17 :: s18 :: s19 :: s20 :: Slot.val d :: ρ) Q = (Q d) := propext Iff.rfl
theorem e_s21 (s0 s1 s2 s3 s4 s5 s6 s7 s8 s9 s10 s11 s12 s13 s14 s15 s16 s17 s18 s19 s20 : Slot) (s x : Slot) (ρ : Rho) : List.set (s0 :: s1 :: s2 :: s3 :: s4 :: s5 :: s6 :: s7 :: s8 :: s9 :: s10 :: s11 :: s12 :: s13 :: s14 :: s15 :: s16 :: s17 :: s18 :: s19 :: s20 :: s :: ρ) 21 x = (s0 :: s1 :: s2 :: s3 :: s4 :: s5 :: s6 :: s7 :: s8 :: s9 :: s10 :: s11 :: s12 :: s13 :: s14 :: s15 :: s16 :: s17 :: s18 :: s19 :: s20 :: x :: ρ) := rfl
theorem e_v22 (s0 s1 s2 s3 s4 s5 s6 s7 s8 s9 s10 s11 s12 s13 s14 s15 s16 s17 s18 s19 s20 s21 : Slot) (d : D) (ρ : Rho) (Q : D → Prop) : mVar 22 (s0 :: s1 :: s2 :: s3 :: s4 :: s5 :: s6 :: s7 :: s8 :: s9 :: s10 :: s11 :: s12 :: s13 :: s14 :: s15 :: s16 :: s17 :: s18 :: s19 :: s20 :: s21 :: Slot.val d :: ρ) Q = (Q d) := propext Iff.rfl
theorem e_s22 (s0 s1 s2 s3 s4 s5 s6 s7 s8 s9 s10 s11 s12 s13 s14 s15 s16 s17 s18 s19 s20 s21 : Slot) (s x : Slot) (ρ : Rho) : List.set (s0 :: s1 :: s2 :: s3 :: s4 :: s5 :: s6 :: s7 :: s8 :: s9 :: s10 :: s11 :: s12 :: s13 :: s14 :: s15 :: s16 :: s17 :: s18 :: s19 :: s20 :: s21 :: s :: ρ) 22 x = (s0 :: s1 :: s2 :: s3 :: s4 :: s5 :: s6 :: s7 :: s8 :: s9 :: s10 :: s11 :: s12 :: s13 :: s14 :: s15 :: s16 :: s17 :: s18 :: s19 :: s20 :: s21 :: x :: ρ) := rfl
theorem e_v23 (s0 s1 s2 s3 s4 s5 s6 s7 s8 s9 s10 s11 s12 s13 s14 s15 s16 s17 s18 s19 s20 s21 s22 : Slot) (d : D) (ρ : Rho) (Q : D → Prop) : mVar 23 (s0 :: s1 :: s2 :: s3 :: s4 :: s5 :: s6 :: s7 :: s8 :: s9 :: s10 :: s11 :: s12 :: s13 :: s14 :: s15 :: s16 :: s17 :: s18 :: s19 :: s20 :: s21 :: s22 :: Slot.val d :: ρ) Q = (Q d) := propext Iff.rfl
theorem e_s23 (s0 s1 s2 s3 s4 s5 s6 s7 s8 s9 s10 s11 s12 s13 s14 s15 s16 s17 s18 s19 s20 s21 s22 : Slot) (s x : Slot) (ρ : Rho) : List.set (s0 :: s1 :: s2 :: s3 :: s4 :: s5 :: s6 :: s7 :: s8 :: s9 :: s10 :: s11 :: s12 :: s13 :: s14 :: s15 :: s16 :: s17 :: s18 :: s19 :: s20 :: s21 :: s22 :: s :: ρ) 23 x = (s0 :: s1 :: s2 :: s3 :: s4 :: s5 :: s6 :: s7 :: s8 :: s9 :: s10 :: s11 :: s12 :: s13 :: s14 :: s15 :: s16 :: s17 :: s18 :: s19 :: s20 :: s21 :: s22 :: x :: ρ) := rfl
theorem e_v24 (s0 s1 s2 s3 s4 s5 s6 s7 s8 s9 s10 s11 s12 s13 s14 s15 s16 s17 s18 s19 s20 s21 s22 s23 : Slot) (d : D) (ρ : Rho) (Q : D → Prop) : mVar 24 (s0 :: s1 :: s2 :: s3 :: s4 :: s5 :: s6 :: s7 :: s8 :: s9 :: s10 :: s11 :: s12 :: s13 :: s14 :: s15 :: s16 :: s17 :: s18 :: s19 :: s20 :: s21 :: s22 :: s23 :: Slot.val d :: ρ) Q = (Q d) := propext Iff.rfl
theorem e_s24 (s0 s1 s2 s3 s4 s5 s6 s7 s8 s9 s10 s11 s12 s13 s14 s15 s16 s17 s18 s19 s20 s21 s22 s23 : Slot) (s x : Slot) (ρ : Rho) : List.set (s0 :: s1 :: s2 :: s3 :: s4 :: s5 :: s6 :: s7 :: s8 :: s9 :: s10 :: s11 :: s12 :: s13 :: s14 :: s15 :: s16 :: s17 :: s18 :: s19 :: s20 :: s21 :: s22 :: s23 :: s :: ρ) 24 x = (s0 :: s1 :: s2 :: s3 :: s4 :: s5 :: s6 :: s7 :: s8 :: s9 :: s10 :: s11 :: s12 :: s13 :: s14 :: s15 :: s16 :: s17 :: s18 :: s19 :: s20 :: s21 :: s22 :: s23 :: x :: ρ) := rfl
theorem e_v25 (s0 s1 s2 s3 s4 s5 s6 s7 s8 s9 s10 s11 s12 s13 s14 s15 s16 s17 s18 s19 s20 s21 s22 s23 s24 : Slot) (d : D) (ρ : Rho) (Q : D → Prop) : mVar 25 (s0 :: s1 :: s2 :: s3 :: s4 :: s5 :: s6 :: s7 :: s8 :: s9 :: s10 :: s11 :: s12 :: s13 :: s14 :: s15 :: s16 :: s17 :: s18 :: s19 :: s20 :: s21 :: s22 :: s23 :: s24 :: Slot.val d :: ρ) Q = (Q d) := propext Iff.rfl
theorem e_s25 (s0 s1 s2 s3 s4 s5 s6 s7 s8 s9 s10 s11 s12 s13 s14 s15 s16 s17 s18 s19 s20 s21 s22 s23 s24 : Slot) (s x : Slot) (ρ : Rho) : List.set (s0 :: s1 :: s2 :: s3 :: s4 :: s5 :: s6 :: s7 :: s8 :: s9 :: s10 :: s11 :: s12 :: s13 :: s14 :: s15 :: s16 :: s17 :: s18 :: s19 :: s20 :: s21 :: s22 :: s23 :: s24 :: s :: ρ) 25 x = (s0 :: s1 :: s2 :: s3 :: s4 :: s5 :: s6 :: s7 :: s8 :: s9 :: s10 :: s11 :: s12 :: s13 :: s14 :: s15 :: s16 :: s17 :: s18 :: s19 :: s20 :: s21 :: s22 :: s23 :: s24 :: x :: ρ) := rfl
theorem e_c (d : D) (ρ : Rho) (Q : D → Prop) : mC d ρ Q = (Q d) := propext Iff.rfl
theorem e_bin (f : D → D → MD) (a b : ME) (ρ : Rho) (Q : D → Prop) : mBin f a b ρ Q = (a ρ fun x => b ρ fun y => f x y Q) := propext Iff.rfl
theorem e_un (f : D → MD) (a : ME) (ρ : Rho) (Q : D → Prop) : mUn f a ρ Q = (a ρ fun x => f x Q) := propext Iff.rfl
theorem e_test (a : ME) (ρ : Rho) (Q : Bool → Prop) : mTest a ρ Q = (a ρ fun d => asBl d Q) := propext Iff.rfl
theorem e_tru (a : ME) (ρ : Rho) (Q : Bool → Prop) : mTru a ρ Q = (a ρ fun d => tru d Q) := propext Iff.rfl
theorem e_and (s t : MT) (ρ : Rho) (Q : Bool → Prop) : mAnd s t ρ Q = (s ρ fun b => if b = true then t ρ Q else Q false) := propext Iff.rfl
theorem e_or (s t : MT) (ρ : Rho) (Q : Bool → Prop) : mOr s t ρ Q = (s ρ fun b => if b = true then Q true else t ρ Q) := propext Iff.rfl
theorem e_not (s : MT) (ρ : Rho) (Q : Bool → Prop) : mNot s ρ Q = (s ρ fun b => Q (!b)) := propext Iff.rfl
theorem e_yes (ρ : Rho) (Q : Bool → Prop) : mYes ρ Q = (Q true) := propext Iff.rfl
theorem e_andV (s t : ME) (ρ : Rho) (Q : D → Prop) : mAndV s t ρ Q = (s ρ fun d => asBl d fun b => if b = true then t ρ Q else Q (.bl false)) := propext Iff.rfl
theorem e_orV (s t : ME) (ρ : Rho) (Q : D → Prop) : mOrV s t ρ Q = (s ρ fun d => asBl d fun b => if b = true then Q (.bl true) else t ρ Q) := propext Iff.rfl
theorem e_notV (s : ME) (ρ : Rho) (Q : D → Prop) : mNotV s ρ Q = (s ρ fun d => asBl d fun b => Q (.bl (!b))) := propext Iff.rfl
theorem e_orT (s t : ME) (ρ : Rho) (Q : D → Prop) : mOrT s t ρ Q = (s ρ fun d => tru d fun b => if b = true then Q d else t ρ Q) := propext Iff.rfl
theorem e_andT (s t : ME) (ρ : Rho) (Q : D → Prop) : mAndT s t ρ Q = (s ρ fun d => tru d fun b => if b = true then t ρ Q else Q d) := propext Iff.rfl
theorem e_if (x : MT) (s t : ME) (ρ : Rho) (Q : D → Prop) : mIf x s t ρ Q = (x ρ fun b => if b = true then s ρ Q else t ρ Q) := propext Iff.rfl
theorem e_nil (ρ : Rho) (Q : List D → Prop) : mNil ρ Q = (Q []) := propext Iff.rfl
theorem e_cons (s : ME) (t : MA) (ρ : Rho) (Q : List D → Prop) : mCons s t ρ Q = (s ρ fun d => t ρ fun ds => Q (d :: ds)) := propext Iff.rfl
theorem e_tup (m : MA) (ρ : Rho) (Q : D → Prop) : mTup m ρ Q = (m ρ fun ds => ds.length ≤ sizeLine ∧ Q (.tup ds)) := propext Iff.rfl
theorem e_lst (m : MA) (ρ : Rho) (Q : D → Prop) : mLst m ρ Q = (m ρ fun ds => ds.length ≤ sizeLine ∧ Q (.lst ds)) := propext Iff.rfl
theorem e_call (f : List D → MD) (m : MA) (ρ : Rho) (Q : D → Prop) : mCall f m ρ Q = (m ρ fun ds => f ds Q) := propext Iff.rfl
theorem e_fn (n : Nat) (f : List D → MD) (m : MA) (ρ : Rho) (Q : D → Prop) : mFn n f [] m ρ Q = (m ρ fun ds => ds.length = n ∧ f ds Q) := by
  unfold mFn; simp only [List.append_nil]
theorem e_chain (f g : D → D → MD) (a b x : ME) (ρ : Rho) (Q : D → Prop) : mChain f g a b x ρ Q = (a ρ fun x0 => b ρ fun y => f x0 y fun z => asBl z fun k => if k = true then x ρ fun w => g y w Q else Q (.bl false)) := propext Iff.rfl
theorem e_noP (ρ : Rho) (Q : Option Int → Prop) : mNoPart ρ Q = (Q none) := propext Iff.rfl
theorem e_part (m : ME) (ρ : Rho) (Q : Option Int → Prop) : mPart m ρ Q = (m ρ fun d => asInt d fun i => Q (some i)) := propext Iff.rfl
theorem e_sl (f : D → Option Int → Option Int → MD) (m : ME) (l h : MO) (ρ : Rho) (Q : D → Prop) : mSl f m l h ρ Q = (m ρ fun d => l ρ fun i => h ρ fun j => f d i j Q) := propext Iff.rfl
theorem e_m1 (f : D → D → MD) (a b : ME) (ρ : Rho) (Q : D → Prop) : mM1 f a b ρ Q = (a ρ fun x => asStr x fun z => b ρ fun y => f (.str z) y Q) := propext Iff.rfl
theorem e_m0 (f : D → MD) (a : ME) (ρ : Rho) (Q : D → Prop) : mM0 f a ρ Q = (a ρ fun x => asStr x fun z => f (.str z) Q) := propext Iff.rfl
theorem e_gv (i : Nat) (d : D) (ρ : Rho) (Q : Rho → Prop) : gvName i d ρ Q = (Q (ρ.set i (.val d))) := propext Iff.rfl
theorem e_gt (n : Nat) (m : MGs) (ds : List D) (ρ : Rho) (Q : Rho → Prop) : gvTup n m (.tup ds) ρ Q = (ds.length = n ∧ m ds ρ Q) := propext Iff.rfl
theorem e_gc (m : MG) (ms : MGs) (d : D) (ds : List D) (ρ : Rho) (Q : Rho → Prop) : gvCons m ms (d :: ds) ρ Q = (m d ρ fun ρ' => ms ds ρ' Q) := propext Iff.rfl
theorem e_gn (ρ : Rho) (Q : Rho → Prop) : gvNil [] ρ Q = (Q ρ) := propext Iff.rfl
theorem e_lc (mi : MA) (mg : MG) (mt : MT) (me : ME) (vs : List Nat) (ρ : Rho) (Q : D → Prop) : mLc mi mg mt me vs ρ Q = (mi ρ fun ds => ds.length ≤ sizeLine ∧ compM mg mt me (wipeR ρ vs) ds fun out => Q (.lst out)) := propext Iff.rfl
theorem e_w0 (ρ : Rho) : wipeR ρ [] = (ρ) := rfl
theorem e_w1 (ρ : Rho) (v : Nat) (vs : List Nat) : wipeR ρ (v :: vs) = ((wipeR ρ vs).set v .no) := rfl
theorem e_list (m : ME) (ρ : Rho) (Q : List D → Prop) : miList m ρ Q = (m ρ fun d => asLst d Q) := propext Iff.rfl
theorem e_tupI (m : ME) (ρ : Rho) (Q : List D → Prop) : miTup m ρ Q = (m ρ fun d => asTup d Q) := propext Iff.rfl
theorem e_strI (m : ME) (ρ : Rho) (Q : List D → Prop) : miStr m ρ Q = (m ρ fun d => asStr d fun x => Q (chars x)) := propext Iff.rfl
theorem var_at {ρ : Rho} {i : Nat} {d : D} {Q : D → Prop} (h : ρ[i]? = some (Slot.val d)) : mVar i ρ Q = Q d := by unfold mVar; rw [h]
theorem asBl_bl (b : Bool) (Q : Bool → Prop) : asBl (.bl b) Q = Q b := propext Iff.rfl
theorem tru_bl (b : Bool) (Q : Bool → Prop) : tru (.bl b) Q = Q b := propext Iff.rfl
theorem tru_int (b : Int) (Q : Bool → Prop) : tru (.int b) Q = Q (b != 0) := propext Iff.rfl
theorem tru_lst (b : List D) (Q : Bool → Prop) : tru (.lst b) Q = Q (!b.isEmpty) := propext Iff.rfl
theorem tru_tup (b : List D) (Q : Bool → Prop) : tru (.tup b) Q = Q (!b.isEmpty) := propext Iff.rfl
theorem len_lst (b : List D) (Q : D → Prop) : lenF [.lst b] Q = Q (.int b.length) := propext Iff.rfl
theorem len_tup (b : List D) (Q : D → Prop) : lenF [.tup b] Q = Q (.int b.length) := propext Iff.rfl
theorem len_str (b : Str) (Q : D → Prop) : lenF [.str b] Q = (b.length ≤ sizeLine ∧ Q (.int b.length)) := propext Iff.rfl
theorem add_int' (i j : Int) (Q : D → Prop) : addF (.int i) (.int j) Q = Q (.int (i + j)) := propext Iff.rfl
theorem sub_int' (i j : Int) (Q : D → Prop) : subF (.int i) (.int j) Q = Q (.int (i - j)) := propext Iff.rfl
theorem lt_int' (i j : Int) (Q : D → Prop) : ltF (.int i) (.int j) Q = Q (.bl (decide (i < j))) := propext Iff.rfl
theorem le_int' (i j : Int) (Q : D → Prop) : leF (.int i) (.int j) Q = Q (.bl (decide (i ≤ j))) := propext Iff.rfl
theorem gt_int' (i j : Int) (Q : D → Prop) : gtF (.int i) (.int j) Q = Q (.bl (decide (j < i))) := propext Iff.rfl
theorem ge_int' (i j : Int) (Q : D → Prop) : geF (.int i) (.int j) Q = Q (.bl (decide (j ≤ i))) := propext Iff.rfl
theorem sh_int (i : Int) : sh (.int i) = true := by unfold sh; simp only [D.pl, D.py, Bool.true_and]; rfl
theorem sh_bl (i : Bool) : sh (.bl i) = true := by unfold sh; simp only [D.pl, D.py, Bool.true_and]; rfl
theorem sh_non : sh .non = true := by unfold sh; simp only [D.pl, D.py, Bool.true_and]; rfl
theorem eqv_int (i j : Int) : eqv (.int i) (.int j) = (i == j) := by unfold eqv; simp only [D.py, PyData.eqv]
theorem eqv_bl (i j : Bool) : eqv (.bl i) (.bl j) = (i == j) := by unfold eqv; simp only [D.py, PyData.eqv]
theorem eq_int' (i j : Int) (Q : D → Prop) : eqF (.int i) (.int j) Q = Q (.bl (i == j)) := by
  show (sh (.int i) = true ∧ sh (.int j) = true ∧ Q (.bl (eqv (.int i) (.int j)))) = _
  rw [sh_int, sh_int, eqv_int]; simp
theorem ne_int' (i j : Int) (Q : D → Prop) : neF (.int i) (.int j) Q = Q (.bl (!(i == j))) := by
  show (sh (.int i) = true ∧ sh (.int j) = true ∧ Q (.bl (!eqv (.int i) (.int j)))) = _
  rw [sh_int, sh_int, eqv_int]; simp
theorem eq_str' (i j : Str) (Q : D → Prop) : eqF (.str i) (.str j) Q = Q (.bl (i == j)) := propext Iff.rfl
theorem ne_str' (i j : Str) (Q : D → Prop) : neF (.str i) (.str j) Q = Q (.bl (!(i == j))) := propext Iff.rfl
theorem asStr_str (b : Str) (Q : Str → Prop) : asStr (.str b) Q = Q b := propext Iff.rfl
theorem asInt_int (b : Int) (Q : Int → Prop) : asInt (.int b) Q = Q b := propext Iff.rfl
theorem asLst_lst (b : List D) (Q : List D → Prop) : asLst (.lst b) Q = Q b := propext Iff.rfl
theorem asTup_tup (b : List D) (Q : List D → Prop) : asTup (.tup b) Q = Q b := propext Iff.rfl
theorem tru_str (x : Str) (Q : Bool → Prop) : tru (.str x) Q = (x.length ≤ sizeLine ∧ Q ((x.length : Int) != 0)) := propext Iff.rfl
theorem add_str' (i j : Str) (Q : D → Prop) : addF (.str i) (.str j) Q = (i.length + j.length ≤ sizeLine ∧ Q (.str (i ++ j))) := propext Iff.rfl
theorem add_lst' (i j : List D) (Q : D → Prop) : addF (.lst i) (.lst j) Q = (i.length + j.length ≤ sizeLine ∧ Q (.lst (i ++ j))) := propext Iff.rfl
theorem add_tup' (i j : List D) (Q : D → Prop) : addF (.tup i) (.tup j) Q = (i.length + j.length ≤ sizeLine ∧ Q (.tup (i ++ j))) := propext Iff.rfl
theorem mul_int' (i j : Int) (Q : D → Prop) : mulF (.int i) (.int j) Q = (i.natAbs.log2 + j.natAbs.log2 < 1000000 ∧ Q (.int (i * j))) := propext Iff.rfl
theorem mul_str' (a : Str) (n : Int) (Q : D → Prop) : mulF (.str a) (.int n) Q = ((0 ≤ n ∧ n ≤ 10000 ∧ a.length ≤ 1000) ∧ Q (.str (repS a n.toNat))) := propext Iff.rfl
theorem mod_int'' (i j : Int) (Q : D → Prop) : modF (.int i) (.int j) Q = (0 < j ∧ Q (.int (i % j))) := propext Iff.rfl
theorem div_int' (i j : Int) (Q : D → Prop) : divF (.int i) (.int j) Q = ((0 < j ∧ j.natAbs.log2 < 9000) ∧ Q (.int (i / j))) := propext Iff.rfl
theorem ix_lst' (xs : List D) (i : Int) (Q : D → Prop) : ixF (.lst xs) (.int i) Q = someD (atI xs i) Q := propext Iff.rfl
theorem ix_tup' (xs : List D) (i : Int) (Q : D → Prop) : ixF (.tup xs) (.int i) Q = someD (atI xs i) Q := propext Iff.rfl
theorem ix_str' (z : Str) (i : Int) (Q : D → Prop) : ixF (.str z) (.int i) Q = (z.length ≤ sizeLine ∧ someD (atI z.cps.toList i) fun c => Q (.str ⟨#[c]⟩)) := propext Iff.rfl
theorem sl_lst' (xs : List D) (lo hi : Option Int) (Q : D → Prop) : slF (.lst xs) lo hi Q = Q (.lst (cutD xs lo hi)) := propext Iff.rfl
theorem sl_tup' (xs : List D) (lo hi : Option Int) (Q : D → Prop) : slF (.tup xs) lo hi Q = Q (.tup (cutD xs lo hi)) := propext Iff.rfl
theorem sl_str' (z : Str) (lo hi : Option Int) (Q : D → Prop) : slF (.str z) lo hi Q = (z.length ≤ sizeLine ∧ Q (.str (Txt.slice z lo hi))) := propext Iff.rfl
theorem at0 {α : Type} (x0 : α) (xs : List α) : atI (x0 :: xs) 0 = some x0 := atI_nat (j := 0) rfl
theorem at1 {α : Type} (x0 x1 : α) (xs : List α) : atI (x0 :: x1 :: xs) 1 = some x1 := atI_nat (j := 1) rfl
theorem at2 {α : Type} (x0 x1 x2 : α) (xs : List α) : atI (x0 :: x1 :: x2 :: xs) 2 = some x2 := atI_nat (j := 2) rfl
theorem at3 {α : Type} (x0 x1 x2 x3 : α) (xs : List α) : atI (x0 :: x1 :: x2 :: x3 :: xs) 3 = some x3 := atI_nat (j := 3) rfl
theorem at4 {α : Type} (x0 x1 x2 x3 x4 : α) (xs : List α) : atI (x0 :: x1 :: x2 :: x3 :: x4 :: xs) 4 = some x4 := atI_nat (j := 4) rfl
theorem at5 {α : Type} (x0 x1 x2 x3 x4 x5 : α) (xs : List α) : atI (x0 :: x1 :: x2 :: x3 :: x4 :: x5 :: xs) 5 = some x5 := atI_nat (j := 5) rfl
theorem at6 {α : Type} (x0 x1 x2 x3 x4 x5 x6 : α) (xs : List α) : atI (x0 :: x1 :: x2 :: x3 :: x4 :: x5 :: x6 :: xs) 6 = some x6 := atI_nat (j := 6) rfl
theorem at7 {α : Type} (x0 x1 x2 x3 x4 x5 x6 x7 : α) (xs : List α) : atI (x0 :: x1 :: x2 :: x3 :: x4 :: x5 :: x6 :: x7 :: xs) 7 = some x7 := atI_nat (j := 7) rfl
theorem neg_int' (i : Int) (Q : D → Prop) : negF (.int i) Q = Q (.int (-i)) := propext Iff.rfl
theorem int_int' (i : Int) (Q : D → Prop) : intF [.int i] Q = Q (.int i) := propext Iff.rfl
theorem int_bl' (b : Bool) (Q : D → Prop) : intF [.bl b] Q = Q (.int (if b then 1 else 0)) := propext Iff.rfl
theorem tupF_lst (xs : List D) (Q : D → Prop) : tupF [.lst xs] Q = Q (.tup xs) := propext Iff.rfl
theorem tupF_tup (xs : List D) (Q : D → Prop) : tupF [.tup xs] Q = Q (.tup xs) := propext Iff.rfl
theorem lstF_lst (xs : List D) (Q : D → Prop) : lstF [.lst xs] Q = Q (.lst xs) := propext Iff.rfl
theorem lstF_tup (xs : List D) (Q : D → Prop) : lstF [.tup xs] Q = Q (.lst xs) := propext Iff.rfl
theorem is_bl' (a b : Bool) (Q : D → Prop) : isF (.bl a) (.bl b) Q = Q (.bl (decide (a = b))) := propext Iff.rfl
theorem not_bl' (a b : Bool) (Q : D → Prop) : notF (.bl a) (.bl b) Q = Q (.bl (!decide (a = b))) := propext Iff.rfl
theorem take_eq (n : Int) (Q : D → Prop) : takeM [.bag, .int n] Q = ((0 < n ∧ n.natAbs.log2 < 9000) ∧ ∀ r : Int, 0 ≤ r → r < n → Q (.int r)) := propext Iff.rfl
theorem some_some {α : Type} (d : α) (Q : α → Prop) : someD (some d) Q = Q d := propext Iff.rfl
theorem two_eq (d e : D) (Q : D → D → Prop) : two [d, e] Q = Q d e := propext Iff.rfl
theorem rng1_eq (n : Int) (m : MA) (ρ : Rho) (Q : List D → Prop) (h : m = fun _ q => q [.int n]) : miRng1 m ρ Q = (n < 2 ^ 62 ∧ -(2 ^ 62) ≤ n ∧ Q (upTo n.toNat)) := by subst h; rfl
theorem log_small {n : Int} (h0 : 0 < n) (h : n < 2 ^ 200) : n.natAbs.log2 < 9000 := by
  have h1 : n.natAbs < 2 ^ 200 := by omega
  have : n.natAbs.log2 < 200 := (Nat.log2_lt (by omega)).mpr h1
  omega
/-! data that is a tuple of texts -/
def txs (xs : List Str) : D := .tup (xs.map D.str)
theorem py_strs : ∀ xs : List Str, D.pyAll (xs.map D.str) = xs.map PyData.str
  | [] => by simp only [List.map_nil, D.pyAll]
  | x :: xs => by simp only [List.map_cons, D.pyAll, D.py, py_strs xs]
theorem pl_strs : ∀ xs : List Str, D.plAll (xs.map D.str) = true
  | [] => by simp only [List.map_nil, D.plAll]
  | x :: xs => by simp only [List.map_cons, D.plAll, D.pl, pl_strs xs, Bool.and_self]
theorem canLay_strs : ∀ xs : List Str, (∀ x ∈ xs, PyData.strOk x = true) → PyData.canLayAll0 (xs.map PyData.str) = true
  | [], _ => by simp only [List.map_nil, PyData.canLayAll0]
  | x :: xs, h => by simp only [List.map_cons, PyData.canLayAll0, PyData.canLay0, h x List.mem_cons_self, canLay_strs xs (fun y hy => h y (List.mem_cons_of_mem _ hy)), Bool.and_self]
theorem depth_strs : ∀ xs : List Str, PyData.depthAll (xs.map PyData.str) = 0
  | [] => by simp only [List.map_nil, PyData.depthAll]
  | x :: xs => by simp only [List.map_cons, PyData.depthAll, PyData.depth, depth_strs xs, Nat.max_self]
theorem sh_txs (xs : List Str) (h : ∀ x ∈ xs, PyData.strOk x = true) : sh (txs xs) = true := by
  unfold sh txs
  simp only [D.pl, D.py, pl_strs, py_strs, Bool.true_and]
  unfold SeqAt.shaped
  simp only [PyData.canLay0, PyData.depth, canLay_strs xs h, depth_strs, Bool.true_and]
  decide
theorem eqvAll_strs : ∀ xs ys : List Str, PyData.eqvAll (xs.map PyData.str) (ys.map PyData.str) = decide (xs = ys)
  | [], [] => by simp [PyData.eqvAll]
  | [], y :: ys => by simp [PyData.eqvAll]
  | x :: xs, [] => by simp [PyData.eqvAll]
  | x :: xs, y :: ys => by
    simp only [List.map_cons, PyData.eqvAll, PyData.eqv, eqvAll_strs xs ys]
    by_cases h : x = y
    · subst h; simp
    · simp [h]
theorem eqv_txs (xs ys : List Str) : eqv (txs xs) (txs ys) = decide (xs = ys) := by
  unfold eqv txs
  simp only [D.py, PyData.eqv, py_strs, eqvAll_strs]
theorem eq_txs (xs ys : List Str) (Q : D → Prop) (h1 : ∀ x ∈ xs, PyData.strOk x = true) (h2 : ∀ x ∈ ys, PyData.strOk x = true) : eqF (txs xs) (txs ys) Q = Q (.bl (decide (xs = ys))) := by
  show (sh (txs xs) = true ∧ sh (txs ys) = true ∧ Q (.bl (eqv (txs xs) (txs ys)))) = _
  rw [sh_txs xs h1, sh_txs ys h2, eqv_txs]; simp
/-! comprehensions -/
theorem comp_map {me : ME} {ρ : Rho} {j : Nat} (f : D → D) : ∀ (ds : List D) (Q : List D → Prop), (∀ d ∈ ds, ∀ Q : D → Prop, Q (f d) → me (ρ.set j (.val d)) Q) → Q (ds.map f) → compM (gvName j) mYes me ρ ds Q
  | [], Q, _, q => q
  | d :: ds, Q, h, q => by
    show me (ρ.set j (.val d)) fun y => compM (gvName j) mYes me ρ ds fun ys => Q (y :: ys)
    exact h d List.mem_cons_self _ (comp_map f ds _ (fun e he => h e (List.mem_cons_of_mem _ he)) q)
theorem comp_all {me : ME} {ρ : Rho} {j : Nat} (P : D → Prop) : ∀ (ds : List D) (Q : List D → Prop), (∀ d ∈ ds, ∀ Q : D → Prop, (∀ y, P y → Q y) → me (ρ.set j (.val d)) Q) → (∀ ys : List D, ys.length = ds.length → (∀ y ∈ ys, P y) → Q ys) → compM (gvName j) mYes me ρ ds Q
  | [], Q, _, q => q [] rfl (by simp)
  | d :: ds, Q, h, q => by
    show me (ρ.set j (.val d)) fun y => compM (gvName j) mYes me ρ ds fun ys => Q (y :: ys)
    refine h d List.mem_cons_self _ fun y hy => comp_all P ds _ (fun e he => h e (List.mem_cons_of_mem _ he)) fun ys hl hys => q (y :: ys) (by simp [hl]) fun z hz => ?_
    rcases List.mem_cons.mp hz with e | hz
    · rw [e]; exact hy
    · exact hys z hz
theorem comp_filter {mt : MT} {me : ME} {ρ : Rho} {j : Nat} (p : D → Bool) (f : D → D) : ∀ (ds : List D) (Q : List D → Prop), (∀ d ∈ ds, ∀ Q : Bool → Prop, Q (p d) → mt (ρ.set j (.val d)) Q) → (∀ d ∈ ds, p d = true → ∀ Q : D → Prop, Q (f d) → me (ρ.set j (.val d)) Q) →
    Q ((ds.filter p).map f) → compM (gvName j) mt me ρ ds Q
  | [], Q, _, _, q => q
  | d :: ds, Q, h1, h2, q => by
    show mt (ρ.set j (.val d)) fun b => if b = true then me (ρ.set j (.val d)) (fun y => compM (gvName j) mt me ρ ds fun ys => Q (y :: ys)) else compM (gvName j) mt me ρ ds Q
    refine h1 d List.mem_cons_self _ ?_
    have t1 : ∀ e ∈ ds, ∀ Q : Bool → Prop, Q (p e) → mt (ρ.set j (.val e)) Q := fun e he => h1 e (List.mem_cons_of_mem _ he)
    have t2 : ∀ e ∈ ds, p e = true → ∀ Q : D → Prop, Q (f e) → me (ρ.set j (.val e)) Q := fun e he => h2 e (List.mem_cons_of_mem _ he)
    cases e : p d with
    | true =>
      rw [if_pos rfl]
      rw [List.filter_cons_of_pos e] at q
      exact h2 d List.mem_cons_self e _ (comp_filter p f ds _ t1 t2 q)
    | false =>
      rw [if_neg Bool.false_ne_true]
      rw [List.filter_cons_of_neg (by rw [e]; simp)] at q
      exact comp_filter p f ds _ t1 t2 q
theorem comp_mapL {α : Type} {me : ME} {ρ : Rho} {j : Nat} (g f : α → D) : ∀ (l : List α) (Q : List D → Prop), (∀ a ∈ l, ∀ Q : D → Prop, Q (f a) → me (ρ.set j (.val (g a))) Q) → Q (l.map f) → compM (gvName j) mYes me ρ (l.map g) Q
  | [], Q, _, q => q
  | d :: ds, Q, h, q => by
    show me (ρ.set j (.val (g d))) fun y => compM (gvName j) mYes me ρ (ds.map g) fun ys => Q (y :: ys)
    exact h d List.mem_cons_self _ (comp_mapL g f ds _ (fun e he => h e (List.mem_cons_of_mem _ he)) q)
theorem comp_filterL {α : Type} {mt : MT} {me : ME} {ρ : Rho} {j : Nat} (g f : α → D) (p : α → Bool) : ∀ (l : List α) (Q : List D → Prop), (∀ a ∈ l, ∀ Q : Bool → Prop, Q (p a) → mt (ρ.set j (.val (g a))) Q) → (∀ a ∈ l, p a = true → ∀ Q : D → Prop, Q (f a) → me (ρ.set j (.val (g a))) Q) →
    Q ((l.filter p).map f) → compM (gvName j) mt me ρ (l.map g) Q
  | [], Q, _, _, q => q
  | d :: ds, Q, h1, h2, q => by
    show mt (ρ.set j (.val (g d))) fun b => if b = true then me (ρ.set j (.val (g d))) (fun y => compM (gvName j) mt me ρ (ds.map g) fun ys => Q (y :: ys)) else compM (gvName j) mt me ρ (ds.map g) Q
    refine h1 d List.mem_cons_self _ ?_
    have t1 : ∀ e ∈ ds, ∀ Q : Bool → Prop, Q (p e) → mt (ρ.set j (.val (g e))) Q := fun e he => h1 e (List.mem_cons_of_mem _ he)
    have t2 : ∀ e ∈ ds, p e = true → ∀ Q : D → Prop, Q (f e) → me (ρ.set j (.val (g e))) Q := fun e he => h2 e (List.mem_cons_of_mem _ he)
    cases e : p d with
    | true =>
      rw [if_pos rfl]
      rw [List.filter_cons_of_pos e] at q
      exact h2 d List.mem_cons_self e _ (comp_filterL g f p ds _ t1 t2 q)
    | false =>
      rw [if_neg Bool.false_ne_true]
      rw [List.filter_cons_of_neg (by rw [e]; simp)] at q
      exact comp_filterL g f p ds _ t1 t2 q
/-- each made thing is some (h a) with P -/
theorem comp_allL {α β : Type} {me : ME} {ρ : Rho} {j : Nat} (g : α → D) (h : β → D) (P : β → Prop) : ∀ (l : List α) (Q : List D → Prop), (∀ a ∈ l, ∀ Q : D → Prop, (∀ y, P y → Q (h y)) → me (ρ.set j (.val (g a))) Q) →
    (∀ ys : List β, ys.length = l.length → (∀ y ∈ ys, P y) → Q (ys.map h)) → compM (gvName j) mYes me ρ (l.map g) Q
  | [], Q, _, q => q [] rfl (by simp)
  | d :: ds, Q, hh, q => by
    show me (ρ.set j (.val (g d))) fun y => compM (gvName j) mYes me ρ (ds.map g) fun ys => Q (y :: ys)
    refine hh d List.mem_cons_self _ fun y hy => comp_allL g h P ds _ (fun e he => hh e (List.mem_cons_of_mem _ he)) fun ys hl hys => q (y :: ys) (by simp [hl]) fun z hz => ?_
    rcases List.mem_cons.mp hz with e | hz
    · rw [e]; exact hy
    · exact hys z hz
theorem size_le {n : Nat} (h : n ≤ 100000) : n ≤ sizeLine := Nat.le_trans h (by decide)
/-! loops: an invariant over what is left -/
theorem for_inv {mg : MG} {mb : MS} {Z : Ed} (I : List D → Rho → Prop) : ∀ (ds : List D) (ρ : Rho), I ds ρ → (∀ ρ, I [] ρ → Z.nx ρ) →
    (∀ d ds ρ (N : Rho → Prop), I (d :: ds) ρ → (∀ ρ', I ds ρ' → N ρ') → mg d ρ fun ρ1 => mb { nx := N, rt := Z.rt, bk := Z.nx, ct := N } ρ1) → forM mg mb Z ds ρ
  | [], ρ, h, h0, _ => h0 ρ h
  | d :: ds, ρ, h, h0, hs => hs d ds ρ _ h fun ρ' h' => for_inv I ds ρ' h' h0 hs
theorem up_len (n : Nat) : (upTo n).length = n := by simp [upTo]
theorem mem_up {n : Nat} {d : D} (h : d ∈ upTo n) : ∃ i : Nat, i < n ∧ d = .int (i : Int) := by
  obtain ⟨i, hi, rfl⟩ := List.mem_map.mp h
  exact ⟨i, List.mem_range.mp hi, rfl⟩
theorem atI_int {α : Type} {xs : List α} {i : Int} {v : α} (h0 : 0 ≤ i) (h : xs[i.toNat]? = some v) : atI xs i = some v := by
  have := atI_nat h
  rwa [Int.toNat_of_nonneg h0] at this
theorem cut_to (xs : List D) (n : Int) (h : 0 ≤ n) : cutD xs none (some n) = xs.take n.toNat := by
  obtain ⟨k, rfl⟩ : ∃ k : Nat, n = (k : Int) := ⟨n.toNat, by omega⟩
  unfold cutD
  rw [HT.sIx_none, HT.sIx_nat]
  simp only [List.drop_zero, Nat.sub_zero, Int.toNat_natCast]
  by_cases hk : k ≤ xs.length
  · rw [Nat.min_eq_left hk]
  · rw [Nat.min_eq_right (by omega), List.take_of_length_le (Nat.le_refl _), List.take_of_length_le (by omega)]
theorem cut_from (xs : List D) (n : Int) (h : 0 ≤ n) : cutD xs (some n) none = xs.drop n.toNat := by
  obtain ⟨k, rfl⟩ : ∃ k : Nat, n = (k : Int) := ⟨n.toNat, by omega⟩
  unfold cutD
  rw [HT.sIx_none, HT.sIx_nat]
  simp only [Int.toNat_natCast]
  by_cases hk : k ≤ xs.length
  · rw [Nat.min_eq_left hk, List.take_of_length_le (by simp)]
  · rw [Nat.min_eq_right (by omega), List.drop_eq_nil_of_le (Nat.le_refl _), List.drop_eq_nil_of_le (by omega)]; simp
end Dz

namespace Dz
open PySem PySem.Spec PyProof.Rows L2
theorem wp_asIndex {M : Model} {A : Around} {E : Value → Shared → Prop} {s : Shared} {x : Int} {u : Tok} {Q : Int → Shared → Prop} (h : Q x s) : wpAny M A (asIndex (.int x u)) Q E s := by
  refine wpAny_bind (m := asInt? (.int x u)) ?_
  refine wpAny_pure (a := some x) ?_
  exact wpAny_pure h
theorem wp_items {M : Model} {A : Around} {E : Value → Shared → Prop} {s : Shared} {l : Addr} {items : Array Value} {n : Nat} {dd : Option Addr} {sl : Array (Option Value)} {Q : Array Value → Shared → Prop} (ho : s.heap.get? l = some ⟨.type "tuple", dd, .seq items n, sl⟩) (h : Q items s) : wpAny M A (Builtin.Tuple.tupleItemsOf (.ref l)) Q E s := by
  cases s
  refine wpAny_bind (m := seqItems? (.ref l)) ?_
  refine wpAny_bind (m := load l) ?_
  refine wpAny_load' ho ?_
  refine wpAny_pure (a := some items) ?_
  exact wpAny_pure h
theorem wp_exact {M : Model} {A : Around} {E : Value → Shared → Prop} {s : Shared} {l : Addr} {o : Obj} {Q : Bool → Shared → Prop} (ho : s.heap.get? l = some o) (hc : o.cls = .type "tuple") (h : Q true s) : wpAny M A (Builtin.Tuple.tupleIsExact (.ref l)) Q E s := by
  refine wpAny_bind (m := typeOf (.ref l)) ?_
  refine wpAny_typeOf_ref ho ?_
  refine wpAny_pure ?_
  rw [hc]
  exact h
theorem it_false {M : Model} {A : Around} {E : Value → Shared → Prop} {s : Shared} {α : Type} {c : Bool} {a b : Sem α} {Q : α → Shared → Prop} (hc : c = false) (h : wpAny M A b Q E s) : wpAny M A (if c = true then a else b) Q E s := by subst hc; exact h
theorem it_true {M : Model} {A : Around} {E : Value → Shared → Prop} {s : Shared} {α : Type} {c : Bool} {a b : Sem α} {Q : α → Shared → Prop} (hc : c = true) (h : wpAny M A a Q E s) : wpAny M A (if c = true then a else b) Q E s := by subst hc; exact h
theorem tuple_mul1 (l : Addr) (items : Array Value) (n : Nat) (dd : Option Addr) (sl : Array (Option Value)) (u : Tok) :
    Meets (Builtin.«tuple.__mul__» { pos := [Value.ref l, Value.int 1 u] }) fun _ R s => s.heap.get? l = some ⟨.type "tuple", dd, .seq items n, sl⟩ ∧ R (.ok (.ret (.ref l))) s := by
  refine Meets.of_wp fun prog w A R s h => ?_
  obtain ⟨ho, hR⟩ := h
  delta Builtin.«tuple.__mul__»
  refine wpAny_bind (m := asIndex (Value.int 1 u)) (wp_asIndex ?_)
  refine it_false ?c2 ?g2
  case c2 => rfl
  refine wpAny_bind (wp_items ho ?_)
  refine it_true ?c3 ?g3
  case c3 => simp
  refine wpAny_bind (wp_exact ho rfl ?_)
  refine it_true ?c4 ?g4
  case c4 => rfl
  refine wpAny_bind (wpAny_rule ?_)
  exact wpAny_pure ⟨_, rfl, hR⟩
theorem tuple_mul0 (l : Addr) (items : Array Value) (n : Nat) (dd : Option Addr) (sl : Array (Option Value)) (u : Tok) (hi : items.isEmpty = false) :
    Meets (Builtin.«tuple.__mul__» { pos := [Value.ref l, Value.int 0 u] }) fun _ R s => s.heap.get? l = some ⟨.type "tuple", dd, .seq items n, sl⟩ ∧ R (.ok (.ret (.ref s.heap.objs.size))) { s with heap := s.heap.push { cls := .type "tuple", data := .seq #[] } } := by
  refine Meets.of_wp fun prog w A R s h => ?_
  obtain ⟨ho, hR⟩ := h
  delta Builtin.«tuple.__mul__»
  refine wpAny_bind (m := asIndex (Value.int 0 u)) (wp_asIndex ?_)
  refine it_false ?c2 ?g2
  case c2 => rfl
  refine wpAny_bind (wp_items ho ?_)
  refine it_false ?c3 ?g3
  case c3 => rw [hi]; rfl
  refine it_true ?c4 ?g4
  case c4 => rfl
  refine wpAny_bind ?_
  refine wpAny_newObj_type ?_
  exact wpAny_pure ⟨_, rfl, hR⟩
/-- t * 0 and t * 1 -/
def rRep01 (K : PySem.W.Frag) : R2 := fun x y H Q => ∃ l k xs, x = .ref l ∧ y = .int k ∧ SqT K H l xs ∧ xs ≠ [] ∧ ((k = 1 ∧ Q (.ref l) H) ∨ (k = 0 ∧ ∀ p, H p = none → Q (.ref p) (upd H p (.tup []))))
theorem op_rep01 {X : Cx} : OpR X (binaryOp .Mult) (rRep01 X.K) := by
  intro pins s σ H x y v u Q I rx ry h
  obtain ⟨l, k, xs, rfl, rfl, hT, hne, q⟩ := h
  cases rx
  obtain ⟨t, rfl⟩ := ry
  obtain ⟨its, r, ⟨⟨cls, dd, data, sl⟩, ho, hc, n, hd⟩, hs⟩ := I.tuple hT
  simp only at hc hd
  subst hc
  subst hd
  have hi : its.toArray.isEmpty = false := by
    cases its with
    | nil => cases r; exact absurd rfl hne
    | cons a b => rfl
  have key : wpAny (model X.prog X.w) X.A (call (.builtin "tuple.__mul__") [.ref l, .int k t]) (EP X pins σ Q) X.xe s := by
    rcases q with ⟨rfl, q⟩ | ⟨rfl, q⟩
    · exact call_meets F.slot_tuple_mul ⟨_, ho, rfl⟩ F.entry_tuple_mul (F.args_tuple_mul_2 _ _) (tuple_mul1 l its.toArray n dd sl t) ⟨ho, .ref l, H, I, rfl, q⟩
    · refine call_meets F.slot_tuple_mul ⟨_, ho, rfl⟩ F.entry_tuple_mul (F.args_tuple_mul_2 _ _) (tuple_mul0 l its.toArray n dd sl t hi) ⟨ho, ?_⟩
      refine ⟨.ref s.heap.objs.size, upd H s.heap.objs.size (.tup []), I.laid (fun b ob q => Heap.get?_push_of_some _ q) (Nat.le_refl _) ⟨Nat.zero_le _, ?_⟩, rfl, q _ (I.hok.fresh (Nat.le_refl _))⟩
      exact ⟨[], .nil, IsTup.new s.heap #[]⟩
  exact wpAny_binaryOp_repeat_ref (by decide) ⟨_, ho, rfl⟩ (fun s' => typeIs_int s' k t) noFill_tuple_mul F.fills_int_mul F.slot_int_rmul repeat_tuple F.slot_int_index.lookup
    (call_meets F.slot_int_rmul (typeIs_int s k t) F.entry_int_rmul (F.args_int_rmul_2 _ _) (int_rmul_tuple k t l its.toArray n dd sl) ⟨ho, rfl, ⟨_, ho, rfl⟩, key⟩)

/-! ### dicts in repr -/
mutual
def D.pd : D → Bool
  | .non => true
  | .bl _ => true
  | .int _ => true
  | .str _ => true
  | .tup xs => D.pdAll xs
  | .dic kvs => D.pdKv kvs
  | _ => false
def D.pdAll : List D → Bool
  | [] => true
  | d :: ds => d.pd && D.pdAll ds
def D.pdKv : List (Key × D) → Bool
  | [] => true
  | (_, d) :: ds => d.pd && D.pdKv ds
end
section
variable {G : Ga} {B : Bs} {H : Hp}
def RdB (G : Ga) (B : Bs) (H : Hp) (s : Shared) (d : D) : Prop := ∀ (v : V) (u : Value), Dt G B H v d → RelV v u → ∃ as, Reads s.heap u d.py as ∧ sysModules ∉ as
theorem key_reads {h : Heap} {key : Key} {v : Value} (p : keyIs key v = true) : Reads h v (kPy key) [] := by
  cases key with
  | inl i =>
    have p1' : Value.isInt i v = true := p
    unfold Value.isInt at p1'
    split at p1'
    · rw [eq_of_beq p1']; exact .int _ _
    · cases p1'
  | inr x =>
    have p1' : Value.isStrOf x v = true := p
    unfold Value.isStrOf at p1'
    split at p1'
    · rw [eq_of_beq p1']; exact .str _ _
    · cases p1'
theorem dkv_reads {X : Cx} {s : Shared} : ∀ (ds : List (Key × D)) {kvs : List (Key × V)} {vs : List (Key × Value)} {es : List DictEntry},
    KV kvs vs → Pairs (mixKind X.prog X.w) es vs → Dkv G B H kvs ds → (∀ k d, (k, d) ∈ ds → RdB G B H s d) →
    ∃ bs, ReadsAll s.heap (es.map fun x => x.key) ((D.pyKv ds).map fun x => x.1) [] ∧ ReadsAll s.heap (es.map fun x => x.val) ((D.pyKv ds).map fun x => x.2) bs ∧ sysModules ∉ bs
  | [], kvs, vs, es, k, p, h, _ => by
    cases h
    cases k
    cases p
    exact ⟨[], by simpa only [D.pyKv] using .nil, by simpa only [D.pyKv] using .nil, by simp⟩
  | (key, d) :: ds, kvs, vs, es, k, p, h, ih => by
    cases h with
    | cons hd hs =>
      cases k with
      | cons k1 k2 =>
        cases p with
        | cons p1 p2 p3 =>
          obtain ⟨bs, r1, r2, r3⟩ := dkv_reads ds k2 p3 hs fun k d hm => ih k d (List.mem_cons_of_mem _ hm)
          obtain ⟨as, q1, q2⟩ := ih key d List.mem_cons_self _ _ hd k1.2
          refine ⟨as ++ bs, ?_, ?_, by simp [q2, r3]⟩
          · simp only [D.pyKv, List.map_cons]
            refine ReadsAll.cons (as := []) ?_ r1
            have e := k1.1
            simp only at e
            rw [← e] at p1
            exact key_reads p1
          · simp only [D.pyKv, List.map_cons]
            rw [p2]
            exact ReadsAll.cons q1 r2
theorem dts_reads {s : Shared} : ∀ (ds : List D) {vs : List V} {us : List Value}, Vals vs us → Dts G B H vs ds → (∀ d ∈ ds, RdB G B H s d) → ∃ bs, ReadsAll s.heap us (D.pyAll ds) bs ∧ sysModules ∉ bs
  | [], vs, us, r, h, _ => by
    cases h; cases r
    exact ⟨[], by simpa only [D.pyAll] using .nil, by simp⟩
  | d :: ds, vs, us, r, h, ih => by
    cases h with
    | cons hd hs =>
      cases r with
      | cons r1 r2 =>
        obtain ⟨bs, q1, q2⟩ := dts_reads ds r2 hs fun d hm => ih d (List.mem_cons_of_mem _ hm)
        obtain ⟨as, q3, q4⟩ := ih d List.mem_cons_self _ _ hd r1
        exact ⟨as ++ bs, by simpa only [D.pyAll] using .cons q3 q1, by simp [q2, q4]⟩
theorem pdAll_mem : ∀ {ds : List D} {d : D}, D.pdAll ds = true → d ∈ ds → d.pd = true
  | [], _, _, h => by cases h
  | e :: ds, d, h, hm => by
    simp only [D.pdAll, Bool.and_eq_true] at h
    rcases List.mem_cons.mp hm with rfl | hm
    · exact h.1
    · exact pdAll_mem h.2 hm
theorem pdKv_mem : ∀ {ds : List (Key × D)} {k : Key} {d : D}, D.pdKv ds = true → (k, d) ∈ ds → d.pd = true
  | [], _, _, _, h => by cases h
  | (k', e) :: ds, k, d, h, hm => by
    simp only [D.pdKv, Bool.and_eq_true] at h
    rcases List.mem_cons.mp hm with hm | hm
    · cases hm; exact h.1
    · exact pdKv_mem h.2 hm
theorem dt_reads {X : Cx} {pins : List (Addr × Obj)} {σ : L2.St} {s : Shared} (I : L2.Inv X pins σ H s) (hK : X.K = G.K) : ∀ (n : Nat) (d : D), sizeOf d ≤ n → d.pd = true → RdB G B H s d := by
  intro n
  induction n with
  | zero => intro d hz; cases d <;> simp at hz
  | succ n ih =>
    intro d hz hp v u h r
    cases h with
    | non => cases r; exact ⟨[], by simpa only [D.py] using .none, by simp⟩
    | bl b => cases r; exact ⟨[], by simpa only [D.py] using .bool b, by simp⟩
    | int i => obtain ⟨t, rfl⟩ := r; exact ⟨[], by simpa only [D.py] using .int i t, by simp⟩
    | str x => obtain ⟨t, rfl⟩ := r; exact ⟨[], by simpa only [D.py] using .str x t, by simp⟩
    | tup h1 h2 =>
      rename_i ds
      cases r
      have hT := h1.sq
      rw [← hK] at hT
      obtain ⟨its, rr, ⟨o, ho, hc, m, hd⟩, _⟩ := I.tuple hT
      simp only [D.pd] at hp
      simp only [D.tup.sizeOf_spec] at hz
      obtain ⟨bs, q1, q2⟩ := dts_reads ds rr h2 fun d hm => ih d (by have := List.sizeOf_lt_of_mem hm; omega) (pdAll_mem hp hm)
      exact ⟨bs, by simpa only [D.py] using .tuple ho hc hd q1, q2⟩
    | dic h1 n1 h2 =>
      rename_i a kvs ds
      cases r
      obtain ⟨_, hs, vs, k1, o, es, ep, ho, hx, hd, _, hP, _⟩ := dk_of I.hok h1
      simp only [D.pd] at hp
      simp only [D.dic.sizeOf_spec] at hz
      obtain ⟨bs, q1, q2, q3⟩ := dkv_reads (X := X) ds k1 hP h2 fun k d hm => ih d (by have := List.sizeOf_lt_of_mem hm; simp at this; omega) (pdKv_mem hp hm)
      refine ⟨_, by simpa only [D.py] using .dict ho hx.1 hd q1 q2, ?_⟩
      have : a ≠ sysModules := fun e => by rw [e] at hs; simp at hs
      simp [q3, Ne.symm this]
    | lst => simp [D.pd] at hp
    | obj => simp [D.pd] at hp
    | ty => simp [D.pd] at hp
    | cls => simp [D.pd] at hp
    | bag => simp [D.pd] at hp

/-- repr of a datum with dicts and no lists -/
def rReprB (K : PySem.W.Frag) : List V → Hp → VK → Prop := fun xs H Q => ∃ (b : Option (Addr × Addr)) (B : Bs) (x : V) (d : D), xs = [x] ∧ Dt ⟨K, b⟩ B H x d ∧ d.pd = true ∧ d.py.showable = true ∧ d.py.depth ≤ 60 ∧ d.py.shown.length ≤ sizeLine ∧ Q (.str d.py.shown) H
theorem call_reprB {X : Cx} {K : PySem.W.Frag} {k : Nat} (hK : X.K = K) (hg : X.A.guards = some []) (hr : Room k X.A) : CallR X (.builtin "repr") (rReprB K) := by
  intro pins s σ H xs us Q I r h
  obtain ⟨b, B, x, d, rfl, hd, hp, hs, hdep, hz, q⟩ := h
  obtain ⟨u, rfl, ru⟩ := Vals.one r
  obtain ⟨as, hr', hn⟩ := dt_reads (G := ⟨K, b⟩) I hK _ d (Nat.le_refl _) hp x u hd ru
  have hu : X.A.units + (d.py.depth + 1) < cLine := by have := hr.units; omega
  have fin : ∀ t tk, EP X pins σ Q (.str d.py.shown t) { s with toks := tk } := fun t tk => ⟨.str _, H, I.tok _, ⟨_, rfl⟩, q⟩
  cases hd with
  | non => cases ru; exact PySem.P.repr_of_none (by simpa [D.py, PyData.shown] using fin _ _)
  | bl b => cases ru; exact PySem.P.repr_of_bool (by simpa [D.py, PyData.shown] using fin _ _)
  | int i => obtain ⟨t, rfl⟩ := ru; exact PySem.P.repr_of_int (by simpa [D.py, PyData.showable] using hs) (by simpa [D.py, PyData.shown] using fin _ _)
  | str z => obtain ⟨t, rfl⟩ := ru; exact PySem.P.repr_of_str (by simpa [D.py, PyData.shown] using fin _ _) (by simpa [D.py, PyData.shown] using hz)
  | tup h1 h2 =>
    cases ru
    refine repr_of_reads' hr' hs (fun _ => hn) hg hu (fun _ _ e => e) (fun h' t tk hk => ?_) hz
    exact ⟨.str _, H, I.kept hk, ⟨_, rfl⟩, q⟩
  | dic h1 n1 h2 =>
    cases ru
    refine repr_of_reads' hr' hs (fun _ => hn) hg hu (fun _ _ e => e) (fun h' t tk hk => ?_) hz
    exact ⟨.str _, H, I.kept hk, ⟨_, rfl⟩, q⟩
  | lst => simp [D.pd] at hp
  | obj => simp [D.pd] at hp
  | ty => simp [D.pd] at hp
  | cls => simp [D.pd] at hp
  | bag => simp [D.pd] at hp
def rRepr2 (K : PySem.W.Frag) : List V → Hp → VK → Prop := fun xs H Q => rRepr K xs H Q ∨ rReprB K xs H Q
theorem reprK2 {X : Cx} {K : PySem.W.Frag} {k : Nat} (hK : X.K = K) (hg : X.A.guards = some []) (hr : Room k X.A) : CallR X (.builtin "repr") (rRepr2 K) := by
  intro pins s σ H xs us Q I r h
  rcases h with h | h
  · rw [← hK] at h; exact call_repr hg hr pins s σ H xs us Q I r h
  · exact call_reprB hK hg hr pins s σ H xs us Q I r h
def reprG (ds : List D) (Q : D → Prop) : Prop := match ds with
  | [d] => ((d.pl || d.pd) = true ∧ d.py.showable = true ∧ d.py.depth ≤ 60 ∧ d.py.shown.length ≤ sizeLine) ∧ Q (.str d.py.shown)
  | _ => False
theorem calld_repr2 : CallD G (rRepr2 G.K) reprG := by
  intro B H x dx ok hx Qd Q hQ hm
  unfold reprG at hm
  split at hm
  · obtain ⟨v, rfl, hv⟩ := hx.one
    obtain ⟨⟨h1, h2, h3, h4⟩, q⟩ := hm
    rcases Bool.or_eq_true_iff.mp h1 with h1 | h1
    · exact .inl ⟨v, _, rfl, hv.dp h1, h2, h3, h4, hQ _ _ H q (Bx.refl _ _) (.str _)⟩
    · exact .inr ⟨G.b, B, v, _, rfl, hv, h1, h2, h3, h4, hQ _ _ H q (Bx.refl _ _) (.str _)⟩
  · exact hm.elim
/-! ### {} and {k: v} -/
theorem evd_dnew : EvD G tDNewK (mC (.dic [])) := fun B H σ ρ hS Qd Q hQ hm p hp => hQ _ _ _ hm (Bx.new hp) (hS.ok.new hp) (.dic upd_same (hS.ok.fresh hp) .nil)
def keyD : D → Option Key
  | .int i => some (.inl i)
  | .str x => some (.inr x)
  | _ => none
def kvsOf : List (D × D) → Option (List (Key × D))
  | [] => some []
  | (k, v) :: r => match keyD k, kvsOf r with
    | some a, some b => some ((a, v) :: b)
    | _, _ => none
def putD (kvs : List (Key × D)) (k : Key) (v : D) : List (Key × D) :=
  if (kvs.any fun kv => decide (kv.1 = k)) = true then kvs.map fun kv => if kv.1 = k then (kv.1, v) else kv else kvs ++ [(k, v)]
def mergeD (kvs more : List (Key × D)) : List (Key × D) := more.foldl (fun acc kv => putD acc kv.1 kv.2) kvs
theorem dkv_any {B H} (k : Key) : ∀ {a : List (Key × V)} {b : List (Key × D)}, Dkv G B H a b → (a.any fun kv => decide (kv.1 = k)) = (b.any fun kv => decide (kv.1 = k))
  | [], _, h => by cases h; rfl
  | _ :: _, [], h => by cases h
  | (x, v) :: a, (y, d) :: b, h => by
    cases h with
    | cons h1 h2 => rw [List.any_cons, List.any_cons, dkv_any k h2]
theorem dkv_snoc {B H} {k : Key} {v : V} {d : D} (hd : Dt G B H v d) : ∀ {a : List (Key × V)} {b : List (Key × D)}, Dkv G B H a b → Dkv G B H (a ++ [(k, v)]) (b ++ [(k, d)])
  | [], _, h => by cases h; exact .cons hd .nil
  | _ :: _, [], h => by cases h
  | (x, v') :: a, (y, d') :: b, h => by
    cases h with
    | cons h1 h2 => exact .cons h1 (dkv_snoc hd h2)
theorem dkv_sub {B H} {k : Key} {v : V} {d : D} (hd : Dt G B H v d) : ∀ {a : List (Key × V)} {b : List (Key × D)}, Dkv G B H a b → Dkv G B H (a.map fun kv => if kv.1 = k then (kv.1, v) else kv) (b.map fun kv => if kv.1 = k then (kv.1, d) else kv)
  | [], _, h => by cases h; exact .nil
  | _ :: _, [], h => by cases h
  | (x, v') :: a, (y, d') :: b, h => by
    cases h with
    | cons h1 h2 =>
      simp only [List.map_cons]
      split
      · exact .cons hd (dkv_sub hd h2)
      · exact .cons h1 (dkv_sub hd h2)
theorem dkv_put {B H} {k : Key} {v : V} {d : D} (hd : Dt G B H v d) {a : List (Key × V)} {b : List (Key × D)} (h : Dkv G B H a b) : Dkv G B H (putK a k v) (putD b k d) := by
  unfold putK putD
  rw [dkv_any k h]
  split
  · exact dkv_sub hd h
  · exact dkv_snoc hd h
theorem dkv_merge {B H} : ∀ {c : List (Key × V)} {d : List (Key × D)} {a : List (Key × V)} {b : List (Key × D)}, Dkv G B H a b → Dkv G B H c d → Dkv G B H (mergeK a c) (mergeD b d)
  | [], _, _, _, h, k => by cases k; exact h
  | _ :: _, [], _, _, _, k => by cases k
  | (x, v) :: c, (y, d) :: e, a, b, h, k => by
    cases k with
    | cons k1 k2 =>
      show Dkv G B H (mergeK (putK a x v) c) (mergeD (putD b x d) e)
      exact dkv_merge (dkv_put k1 h) k2
def mPairs : List (ME × ME) → Rho → (List (D × D) → Prop) → Prop
  | [], _, Q => Q []
  | (mk, mv) :: r, ρ, Q => mk ρ fun k => mv ρ fun v => mPairs r ρ fun ps => Q ((k, v) :: ps)
def someL (o : Option (List (Key × D))) (Q : List (Key × D) → Prop) : Prop := match o with
  | some d => Q d
  | none => False
def mDisp (ms : List (ME × ME)) : ME := fun ρ Q => mPairs ms ρ fun ps => ps.length ≤ 15 ∧ someL (kvsOf ps) fun kvs => Q (.dic (mergeD [] kvs))
def EvP (G : Ga) (trs : List (TE × TE)) (ms : List (ME × ME)) : Prop := ∀ (B : Bs) (H : Hp) (σ : L2.St) (ρ : Rho), Sta G B H σ ρ → ∀ (Qd : List (D × D) → Prop) (Q : List (V × V) → Hp → Prop),
  (∀ ds vs H2, Qd ds → Bx G.c H H2 → Ok G B H2 → Dts G B H2 (vs.map Prod.fst) (ds.map Prod.fst) → Dts G B H2 (vs.map Prod.snd) (ds.map Prod.snd) → Q vs H2) → mPairs ms ρ Qd → tPairs trs σ H Q
theorem evp_nil : EvP G [] [] := fun B H σ ρ hS Qd Q hQ hm => hQ [] [] H hm (Bx.refl _ _) hS.ok .nil .nil
theorem evp_cons {tk tv : TE} {mk mv : ME} {trs ms} (hk : EvD G tk mk) (hv : EvD G tv mv) (hr : EvP G trs ms) : EvP G ((tk, tv) :: trs) ((mk, mv) :: ms) := by
  intro B H σ ρ hS Qd Q hQ hm
  refine hk B H σ ρ hS (fun k => mv ρ fun v => mPairs ms ρ fun ps => Qd ((k, v) :: ps)) _ (fun k vk H1 q b1 ok1 h1 => ?_) hm
  refine hv B H1 σ ρ (hS.bx b1 ok1) (fun v => mPairs ms ρ fun ps => Qd ((k, v) :: ps)) _ (fun v vv H2 q b2 ok2 h2 => ?_) q
  refine hr B H2 σ ρ ((hS.bx b1 ok1).bx b2 ok2) (fun ps => Qd ((k, v) :: ps)) _ (fun ps vs H3 q b3 ok3 h3 h4 => ?_) q
  exact hQ _ ((vk, vv) :: vs) H3 q ((b1.trans b2).trans b3) ok3 (.cons ((h1.bx (b2.sub ok1.sub)).bx (b3.sub ok2.sub)) h3) (.cons (h2.bx (b3.sub ok2.sub)) h4)
theorem kvs_inv {B H} : ∀ {ps : List (D × D)} {vs : List (V × V)} {kvs : List (Key × D)}, kvsOf ps = some kvs → Dts G B H (vs.map Prod.fst) (ps.map Prod.fst) → Dts G B H (vs.map Prod.snd) (ps.map Prod.snd) →
    ∃ kv : List (Key × V), vs = kv.map (fun x => (kV x.1, x.2)) ∧ Dkv G B H kv kvs
  | [], vs, kvs, e, h1, h2 => by
    cases vs with
    | nil => cases e; exact ⟨[], rfl, .nil⟩
    | cons => cases h1
  | (k, v) :: ps, vs, kvs, e, h1, h2 => by
    cases vs with
    | nil => cases h1
    | cons x vs =>
      cases h1 with
      | cons a1 a2 =>
        cases h2 with
        | cons c1 c2 =>
          simp only [kvsOf] at e
          split at e
          · rename_i a b ea eb
            cases e
            obtain ⟨kv, e1, e2⟩ := kvs_inv eb a2 c2
            obtain ⟨xk, xv⟩ := x
            have : xk = kV a := by
              cases a1 <;> simp only [keyD] at ea <;> first
                | cases ea; rfl
                | cases ea
            refine ⟨(a, xv) :: kv, by rw [List.map_cons, e1, this], .cons c1 e2⟩
          · cases e
theorem evd_disp {trs ms} (h : EvP G trs ms) : EvD G (tDisp trs) (mDisp ms) := by
  intro B H σ ρ hS Qd Q hQ hm p hp
  have hpB : p ∉ B := hS.ok.fresh hp
  have hpc : p ∉ G.c := fun z => hpB (hS.ok.sub p z)
  refine h (Bs.cons p B) (upd H p (.dK [])) σ ρ (hS.more hp) _ _ (fun ps vs H2 q b ok h1 h2 => ?_) hm
  have e : H2 p = some (.dK []) := b p _ hpc upd_same
  refine ⟨e, ?_⟩
  obtain ⟨hl, q⟩ := q
  unfold someL at q
  split at q
  · rename_i kvs ek
    obtain ⟨kv, e1, e2⟩ := kvs_inv ek h1 h2
    refine ⟨kv, e1, ?_, ?_⟩
    · have := h1.length
      rw [e1] at this
      simp at this
      omega
    · refine hQ _ _ _ q (fun a o n ha => ?_) ((ok.put hpc).drop hpc) (.dic upd_same hpB ?_)
      · have : a ≠ p := ne_of_none ha hp
        rw [upd_ne this]
        exact b a o n (by rw [upd_ne this]; exact ha)
      · have m := dkv_merge (G := G) (B := Bs.cons p B) (H := H2) .nil e2
        refine m.to fun a o n ha => ?_
        have : a ≠ p := fun z => n (z ▸ Bs.mem_self)
        exact ⟨fun z => n (Bs.mem_of z), by rw [upd_ne this]; exact ha⟩
  · exact q.elim
/-! ### t * k, i ** j, upper -/
def mulG (x y : D) (Q : D → Prop) : Prop := match x, y with
  | .tup xs, .int n => (xs ≠ [] ∧ 0 ≤ n ∧ n ≤ 1000 ∧ xs.length ≤ 1000) ∧ Q (.tup (List.replicate n.toNat xs).flatten)
  | x, y => mulF x y Q
def rMulG (K : PySem.W.Frag) (r : R2) : R2 := fun x y H Q => r x y H Q ∨ (rRep01 K x y H Q ∨ rRepT K x y H Q)
theorem opd_mulG {r : R2} (h : OpD G r mulF) : OpD G (rMulG G.K r) mulG := by
  intro B H x y dx dy ok hx hy Qd Q hQ hm
  unfold mulG at hm
  split at hm
  · rename_i xs n
    obtain ⟨⟨hne, h0, h1, hl⟩, q⟩ := hm
    cases hx with
    | tup t1 t2 =>
      cases hy
      have hne' : ∀ {vs : List V}, Dts G B H vs xs → vs ≠ [] := fun h e => hne (h.nil_iff.mp e)
      right
      have c : n = 0 ∨ n = 1 ∨ 2 ≤ n := by omega
      rcases c with rfl | rfl | c
      · exact .inl ⟨_, _, _, rfl, rfl, t1.sq, hne' t2, .inr ⟨rfl, fun p hp => hQ _ _ _ q (Bx.new hp) (dt_newT ok hp .nil)⟩⟩
      · refine .inl ⟨_, _, _, rfl, rfl, t1.sq, hne' t2, .inl ⟨rfl, hQ _ _ H q (Bx.refl _ _) ?_⟩⟩
        have : (List.replicate (1 : Int).toNat xs).flatten = xs := by simp
        rw [this]
        exact .tup t1 t2
      · exact .inr ⟨_, _, _, rfl, rfl, t1.sq, hne' t2, c, h1, by rw [t2.length]; exact hl, fun p hp => hQ _ _ _ q (Bx.new hp) (dt_newT ok hp (t2.rep _))⟩
  · exact .inl (h B H x y dx dy ok hx hy Qd Q hQ hm)
def powF (x y : D) (Q : D → Prop) : Prop := match x, y with
  | .int i, .int j => (0 ≤ j ∧ j ≤ 1000000 ∧ i.natAbs < 2 ^ 64) ∧ Q (.int (i ^ j.toNat))
  | _, _ => False
theorem opd_pow : OpD G (rI CPow fun i j => .int (i ^ j.toNat)) powF := opd_i fun dx dy Qd h => by
  cases dx <;> cases dy <;> first
    | exact ⟨_, _, _, rfl, rfl, h.1, fun _ _ => .int _, h.2⟩
    | exact (show False from h).elim
def rUp : V → List V → Hp → VK → Prop := fun x xs H Q => ∃ a, x = .str a ∧ xs = [] ∧ a.length ≤ 5592405 ∧ Q (.str (Txt.upper a)) H
def upF (x : D) (Q : D → Prop) : Prop := match x with
  | .str a => a.length ≤ 5592405 ∧ Q (.str (Txt.upper a))
  | _ => False
theorem und_up : UnD G (fun x H Q => rUp x [] H Q) upF := by
  intro B H x dx ok hx Qd Q hQ hm
  cases hx with
  | str a => exact ⟨a, rfl, rfl, hm.1, hQ _ _ H hm.2 (Bx.refl _ _) (.str _)⟩
  | _ => exact (show False from hm).elim
theorem mulGK {X : Cx} {K : PySem.W.Frag} (h : X.K = K) : OpR X (binaryOp .Mult) (rMulG K rMulU) := by subst h; exact op_mulU.or (op_rep01.or op_repT)
theorem opd_mulG' : OpD G (rMulG G.K rMulU) mulG := opd_mulG opd_mul
theorem pe_upK {X : Cx} {o : Expr} {to : TE} {apos pos : Pos} (ho : PE X o to) (h1 : attributeBase o (Str.ofString "upper") X.env (eval o X.env) = eval o X.env := by rfl) (h2 : (apos.endLine == pos.line) = true := by rfl) :
    PE X (.Call (.Attribute o (Str.ofString "upper") apos) [] [] pos) (tM0 rUp to) := pe_upper ho h1 h2
/-! ### xs == [] -/
def eqG (x y : D) (Q : D → Prop) : Prop := match x, y with
  | .lst xs, .lst [] => Q (.bl xs.isEmpty)
  | x, y => eqF x y Q
def rEqNil : R2 := fun x y H Q => ∃ a b vs, x = .ref a ∧ y = .ref b ∧ H a = some (.lst vs) ∧ H b = some (.lst []) ∧ vs ≠ [] ∧ Q (.bl false) H
def rEqG2 (K : PySem.W.Frag) : R2 := fun x y H Q => rEqU K x y H Q ∨ rEqNil x y H Q
theorem plain_list {h : Heap} {a : Addr} {xs : Array Value} (p : PlainL h a xs) : h.IsList a xs := by
  obtain ⟨o, n, e, c, d, q⟩ := p
  exact ⟨o, e, c, n, q⟩
theorem op_eqNil {X : Cx} (hu : X.A.units + 64 < cLine) : OpR X (compareOp .Eq) rEqNil := by
  intro pins s σ H x y v u Q I rx ry h
  obtain ⟨a, b, vs, rfl, rfl, h1, h2, hne, q⟩ := h
  cases rx
  cases ry
  obtain ⟨its, r, p, _⟩ := I.list (.inl (.inl h1) : SqL X.K H a vs)
  obtain ⟨its2, r2, p2, _⟩ := I.list (.inl (.inl h2) : SqL X.K H b [])
  cases r2
  refine SeqAt.eq_list_lengthsAt (plain_list p) (plain_list p2) ?_ (by omega) ⟨.bl false, H, I, rfl, q⟩
  cases r with
  | nil => exact absurd rfl hne
  | cons _ _ => simp
theorem eqGK {X : Cx} {K : PySem.W.Frag} (h : X.K = K) (hu : X.A.units + 64 < cLine) : OpR X (compareOp .Eq) (rEqG2 K) := by subst h; exact (op_eq.or (op_eqD hu)).or (op_eqNil hu)
theorem opd_eqG : OpD G (rEqG2 G.K) eqG := by
  intro B H x y dx dy ok hx hy Qd Q hQ hm
  unfold eqG at hm
  split at hm
  · rename_i xs
    cases hx with
    | lst h1 n1 s1 =>
      cases hy with
      | lst h2 n2 s2 =>
        cases s2
        cases xs with
        | nil =>
          cases s1
          exact .inl (.inr ⟨_, _, .lst (.inl (.inl h1)) .nil, .lst (.inl (.inl h2)) .nil, by decide, by decide, hQ _ _ H hm (Bx.refl _ _) (.bl _)⟩)
        | cons d ds => exact .inr ⟨_, _, _, rfl, rfl, h1, h2, by cases s1; simp, hQ _ _ H hm (Bx.refl _ _) (.bl _)⟩
  · exact .inl (opd_eq B H x y dx dy ok hx hy Qd Q hQ hm)
end
end Dz

namespace Dz
open PySem PySem.Spec PyProof.Rows L2
/-! ### lists of one's own: made, added to, and then data -/
section
variable {G : Ga} {B B0 : Bs} {H H0 : Hp} {σ : L2.St} {ρ : Rho}
theorem set_get {ρ : Rho} {i j : Nat} {x y : Slot} (h : (ρ.set i x)[j]? = some y) : (j = i ∧ y = x ∧ i < ρ.length) ∨ (j ≠ i ∧ ρ[j]? = some y) := by
  rw [List.getElem?_set] at h
  split at h
  · rename_i z
    split at h
    · rename_i hl; cases h; exact .inl ⟨z.symm, rfl, hl⟩
    · cases h
  · rename_i z; exact .inr ⟨fun e => z e.symm, h⟩
theorem Sta.setOwn (h : Sta G B H σ ρ) {p : Addr} {i : Nat} {vs : List V} {ds : List D} (hp : H p = none) (hd : Dts G B H vs ds) : Sta G (.cons p B) (upd H p (.lst vs)) (σ.set i (some (.ref p))) (ρ.set i (.own ds)) := by
  have m := h.more (o := .lst vs) hp
  have nc : p ∉ G.c := fun z => h.ok.fresh hp (h.ok.sub p z)
  refine ⟨m.ok, by simp [h.len], fun j e he => ?_, fun j es he => ?_, fun j l ds1 es1 a e1 e2 e3 e4 => ?_, fun a C ds e => ?_⟩
  · rcases set_get he with ⟨_, q, _⟩ | ⟨n, q⟩
    · cases q
    · rw [List.getElem?_set_ne (Ne.symm n)]; exact m.val j e q
  · rcases set_get he with ⟨rfl, e, hl⟩ | ⟨n, e⟩
    · cases e
      rw [List.getElem?_set, if_pos rfl, if_pos (by rw [← h.len]; exact hl)]
      exact ⟨p, vs, rfl, upd_same, Bs.mem_self, nc, hd.more hp⟩
    · rw [List.getElem?_set_ne (Ne.symm n)]; exact m.own j es e
  · have old : ∀ j ds1, j ≠ i → ρ[j]? = some (Slot.own ds1) → σ[j]? ≠ some (some (V.ref p)) := fun j ds1 _ e z => by
      obtain ⟨a, vs1, q1, q2, _⟩ := h.own j ds1 e
      rw [q1] at z
      cases z
      rw [hp] at q2; cases q2
    rcases set_get e1 with ⟨rfl, _, hl⟩ | ⟨n1, e1⟩
    · rcases set_get e2 with ⟨rfl, _, _⟩ | ⟨n2, e2⟩
      · rfl
      · rw [List.getElem?_set, if_pos rfl, if_pos (by rw [← h.len]; exact hl)] at e3
        cases e3
        rw [List.getElem?_set_ne (Ne.symm n2)] at e4
        exact absurd e4 (old l es1 n2 e2)
    · rw [List.getElem?_set_ne (Ne.symm n1)] at e3
      rcases set_get e2 with ⟨q, _, hl⟩ | ⟨n2, e2⟩
      · rw [q, List.getElem?_set, if_pos rfl, if_pos (by rw [← h.len]; exact hl)] at e4
        cases e4
        exact absurd e3 (old j ds1 n1 (by assumption))
      · rw [List.getElem?_set_ne (Ne.symm n2)] at e4
        exact h.inj j l ds1 es1 a e1 e2 e3 e4
  · obtain ⟨n, e⟩ := slf_set (fun _ _ _ z => by cases z) e
    rw [List.getElem?_set_ne n]
    exact m.slf a C ds e
theorem Sg.nc (h : Sg G B0 H0 B H σ ρ) {p : Addr} (hp : H p = none) : p ∉ B0 ∧ H0 p = none ∧ p ∉ G.c ∧ p ∉ B := by
  have nB : p ∉ B := h.sta.ok.fresh hp
  have nc : p ∉ G.c := fun z => nB (h.sta.ok.sub p z)
  refine ⟨fun z => nB (h.up p z), ?_, nc, nB⟩
  cases e : H0 p with
  | none => rfl
  | some o => have := h.bx p o nc e; rw [hp] at this; cases this
/-- x = [..], to be changed -/
def sOwn (i : Nat) (m : MA) : MS := fun Z ρ => m ρ fun ds => ds.length ≤ sizeLine ∧ Z.nx (ρ.set i (.own ds))
theorem evs_own {i : Nat} {tA : TA} {mA : MA} (h : EvA G tA mA) : EvS G (tAsg (tLst tA) (gName i)) (sOwn i mA) := by
  intro B0 H0 B H σ ρ hS Z E C hm
  refine h B H σ ρ hS.sta (fun ds => ds.length ≤ sizeLine ∧ Z.nx (ρ.set i (.own ds))) _ (fun ds vs H1 q b1 ok1 hd => ?_) hm
  obtain ⟨s1, t1⟩ := hS.step b1 ok1
  refine ⟨by rw [hd.length]; exact q.1, fun p hp => ?_⟩
  obtain ⟨n0, h0, nc, nB⟩ := s1.nc hp
  refine C.nx _ _ (.cons p B) _ q.2 ⟨s1.sta.setOwn hp hd, s1.bx.trans (Bx.new hp), fun a ha => Bs.mem_of (hS.up a ha), fun a ha => ?_, ⟨fun j es a e1 e2 => ?_, fun a C fs e => hS.own.2 a C fs (slf_set (fun _ _ _ z => by cases z) e).2⟩, hS.bg⟩ (t1.trans fun a o n e => ⟨fun z => (Bs.mem_cons.mp z).elim (fun z => ne_of_none e hp z) n, by rw [upd_ne (ne_of_none e hp)]; exact e⟩)
  · rcases Bs.mem_cons.mp ha with rfl | ha
    · exact .inr h0
    · exact hS.fr a ha
  · rcases set_get e1 with ⟨rfl, _, hl⟩ | ⟨n, e1⟩
    · rw [List.getElem?_set, if_pos rfl, if_pos (by rw [← hS.sta.len]; exact hl)] at e2
      cases e2
      exact ⟨h0, n0⟩
    · rw [List.getElem?_set_ne (Ne.symm n)] at e2
      exact hS.own.1 j es a e1 e2
/-- what an own list holds is written anew -/
theorem Sta.putOwn (h : Sta G B H σ ρ) {a : Addr} {i : Nat} {vs' : List V} {ds ds' : List D} (e : ρ[i]? = some (Slot.own ds)) (ea : σ[i]? = some (some (V.ref a))) (hB : a ∈ B) (hG : a ∉ G.c) (hd : Dts G B H vs' ds') :
    Sta G B (upd H a (.lst vs')) σ (ρ.set i (.own ds')) := by
  have k : ∀ {v d}, Dt G B H v d → Dt G B (upd H a (.lst vs')) v d := fun h => h.to fun x o n q => ⟨n, by rw [upd_ne (fun z => n (by rw [z]; exact hB))]; exact q⟩
  have ks : ∀ {v d}, Dts G B H v d → Dts G B (upd H a (.lst vs')) v d := fun h => h.to fun x o n q => ⟨n, by rw [upd_ne (fun z => n (by rw [z]; exact hB))]; exact q⟩
  refine ⟨h.ok.put hG, by simp [h.len], fun j d he => ?_, fun j es he => ?_, fun j l ds1 es1 b e1 e2 e3 e4 => ?_, fun b C fs e1 => ?_⟩
  · rcases set_get he with ⟨_, q, _⟩ | ⟨_, q⟩
    · cases q
    · obtain ⟨v, q1, q2⟩ := h.val j d q
      exact ⟨v, q1, k q2⟩
  · rcases set_get he with ⟨rfl, q, _⟩ | ⟨n, q⟩
    · cases q
      exact ⟨a, vs', ea, upd_same, hB, hG, ks hd⟩
    · obtain ⟨b, ws, q1, q2, q3, q4, q5⟩ := h.own j es q
      have : b ≠ a := fun z => by
        subst z
        exact n (h.inj j i es ds b q e q1 ea)
      exact ⟨b, ws, q1, by rw [upd_ne this]; exact q2, q3, q4, ks q5⟩
  · have old : ∀ j ds1, (ρ.set i (.own ds'))[j]? = some (Slot.own ds1) → ∃ ds2, ρ[j]? = some (Slot.own ds2) := fun j ds1 q => by
      rcases set_get q with ⟨rfl, _, _⟩ | ⟨_, q⟩
      · exact ⟨_, e⟩
      · exact ⟨_, q⟩
    obtain ⟨_, o1⟩ := old j ds1 e1
    obtain ⟨_, o2⟩ := old l es1 e2
    exact h.inj j l _ _ b o1 o2 e3 e4
  · obtain ⟨_, e1⟩ := slf_set (fun _ _ _ z => by cases z) e1
    obtain ⟨dx, gs, q1, q2, q3, q4, q5⟩ := h.slf b C fs e1
    obtain ⟨a', us, f1, f2, _⟩ := h.own i ds e
    have ea' : a' = a := by rw [f1] at ea; cases ea; rfl
    subst ea'
    have : b ≠ a' := fun z => by rw [z, f2] at q2; cases q2
    exact ⟨dx, gs, q1, by rw [upd_ne this]; exact q2, q3, q4, q5.to fun x o n q => ⟨n, by rw [upd_ne (fun z => n (by rw [z]; exact hB))]; exact q⟩⟩
def ownD (s : Option Slot) (Q : List D → Prop) : Prop := match s with
  | some (.own ds) => Q ds
  | _ => False
/-- x.append(e) -/
def sApp (i : Nat) (m : ME) : MS := fun Z ρ => ownD ρ[i]? fun ds => m ρ fun d => ds.length < sizeLine ∧ Z.nx (ρ.set i (.own (ds ++ [d])))
theorem evs_app {i : Nat} {te : TE} {me : ME} (h : EvD G te me) : EvS G (tDrop (tBM G.K "list" rAppend (tVar i) (tCons te tNil))) (sApp i me) := by
  intro B0 H0 B H σ ρ hS Z E C hm
  unfold sApp ownD at hm
  split at hm
  · rename_i ds e
    obtain ⟨a, vs, ea, ha, hB, hG, hd⟩ := hS.sta.own i ds e
    refine ⟨_, ea, .inl ⟨rfl, _, .inl (.inl ha)⟩, ?_⟩
    refine h B H σ ρ hS.sta (fun d => ds.length < sizeLine ∧ Z.nx (ρ.set i (.own (ds ++ [d])))) _ (fun d v H1 q b1 ok1 hv => ?_) hm
    obtain ⟨s1, t1⟩ := hS.step b1 ok1
    have ha1 : H1 a = some (.lst vs) := b1 a _ hG ha
    have hd1 := hd.bx (b1.sub hS.sta.ok.sub)
    refine ⟨a, vs, v, rfl, rfl, ha1, by rw [hd1.length]; exact q.1, ?_⟩
    obtain ⟨h0, n0⟩ := hS.own.1 i ds a e ea
    refine C.nx _ _ B _ q.2 ⟨s1.sta.putOwn e ea hB hG (hd1.append (.cons hv .nil)), fun x o n z => ?_, hS.up, hS.fr, ⟨fun j es b e1 e2 => ?_, fun b C fs e => hS.own.2 b C fs (slf_set (fun _ _ _ z => by cases z) e).2⟩, hS.bg⟩ (t1.trans fun x o n z => ⟨n, by rw [upd_ne (fun y => n (by rw [y]; exact hB))]; exact z⟩)
    · have : x ≠ a := fun y => by rw [y, h0] at z; cases z
      rw [upd_ne this]; exact s1.bx x o n z
    · rcases set_get e1 with ⟨rfl, _, _⟩ | ⟨_, e1⟩
      · exact hS.own.1 j ds b e e2
      · exact hS.own.1 j es b e1 e2
  · exact hm.elim
/-- all places but one -/
def Bs.del (a : Addr) (B : Bs) : Bs := fun x => x ∈ B ∧ x ≠ a
theorem Ok.del {a : Addr} (h : Ok G B H) (hG : a ∉ G.c) : Ok G (B.del a) H :=
  h.less (fun x hx => hx.1) fun x hx => ⟨h.sub x hx, fun z => hG (z ▸ hx)⟩
/-- an own list, seen as a datum -/
theorem Sta.frz (h : Sta G B H σ ρ) {i : Nat} {a : Addr} {ds : List D} (e : ρ[i]? = some (Slot.own ds)) (ea : σ[i]? = some (some (V.ref a))) (hG : a ∉ G.c) : Sta G (B.del a) H σ (ρ.set i (.val (.lst ds))) := by
  obtain ⟨a', vs, ea', ha, hB, _, hd⟩ := h.own i ds e
  have : a' = a := by rw [ea'] at ea; cases ea; rfl
  subst this
  have less : ∀ x ∈ B.del a', x ∈ B := fun x hx => hx.1
  have na : a' ∉ B.del a' := fun z => z.2 rfl
  refine ⟨h.ok.del hG, by simp [h.len], fun j d he => ?_, fun j es he => ?_, fun j l ds1 es1 b e1 e2 e3 e4 => ?_, fun b C fs e1 => ?_⟩
  · rcases set_get he with ⟨rfl, q, _⟩ | ⟨_, q⟩
    · cases q
      exact ⟨_, ea, .lst ha na (hd.less less)⟩
    · obtain ⟨v, q1, q2⟩ := h.val j d q
      exact ⟨v, q1, q2.less less⟩
  · rcases set_get he with ⟨_, q, _⟩ | ⟨n, q⟩
    · cases q
    · obtain ⟨b, ws, q1, q2, q3, q4, q5⟩ := h.own j es q
      exact ⟨b, ws, q1, q2, ⟨q3, fun z => by subst z; exact n (h.inj j i es ds b q e q1 ea)⟩, q4, q5.less less⟩
  · obtain ⟨n1, o1⟩ := (set_get e1).resolve_left fun z => by cases z.2.1
    obtain ⟨n2, o2⟩ := (set_get e2).resolve_left fun z => by cases z.2.1
    exact h.inj j l _ _ b o1 o2 e3 e4
  · obtain ⟨_, e1⟩ := slf_set (fun _ _ _ z => by cases z) e1
    obtain ⟨dx, gs, q1, q2, q3, q4, q5⟩ := h.slf b C fs e1
    exact ⟨dx, gs, q1, q2, ⟨q3, fun z => by rw [z, ha] at q2; cases q2⟩, q4, q5.less less⟩
/-- an own list that is changed no more is a datum -/
def sFrz (i : Nat) (m : MS) : MS := fun Z ρ => ownD ρ[i]? fun ds => m Z (ρ.set i (.val (.lst ds)))
theorem evs_frz {i : Nat} {t : TS} {m : MS} (h : EvS G t m) : EvS G t (sFrz i m) := by
  intro B0 H0 B H σ ρ hS Z E C hm
  unfold sFrz ownD at hm
  split at hm
  · rename_i ds e
    obtain ⟨a, vs, ea, ha, hB, hG, hd⟩ := hS.sta.own i ds e
    obtain ⟨h0, n0⟩ := hS.own.1 i ds a e ea
    refine h B0 H0 (B.del a) H σ (ρ.set i (.val (.lst ds))) ⟨hS.sta.frz e ea hG, hS.bx, fun x hx => ⟨hS.up x hx, fun z => n0 (z ▸ hx)⟩, fun x hx => hS.fr x hx.1, ⟨fun j es b e1 e2 => ?_, fun b C fs e => hS.own.2 b C fs (slf_set (fun _ _ _ z => by cases z) e).2⟩, hS.bg⟩ Z E (C.from fun x o n z => ⟨fun q => n q.1, z⟩) hm
    obtain ⟨n1, o1⟩ := (set_get e1).resolve_left fun z => by cases z.2.1
    exact hS.own.1 j es b o1 e2
  · exact hm.elim
/-! ### while -/
def whileM (mt : MT) (mb : MS) (Z : Ed) : Nat → Rho → Prop
  | 0, _ => False
  | n + 1, ρ => mt ρ fun b => if b = true then mb { nx := whileM mt mb Z n, rt := Z.rt, bk := Z.nx, ct := whileM mt mb Z n } ρ else Z.nx ρ
def sWhile (mt : MT) (mb : MS) : MS := fun Z ρ => ∃ n, whileM mt mb Z n ρ
theorem evs_while {tt : TT} {mt : MT} {tb : TS} {mb : MS} (hc : EvT G tt mt) (hb : EvS G tb mb) : EvS G (tWhile tt tb) (sWhile mt mb) := by
  intro B0 H0 B H σ ρ hS Z E C hm
  obtain ⟨n, hm⟩ := hm
  refine ⟨fun m σ' H' => ∃ B' ρ', Sg G B0 H0 B' H' σ' ρ' ∧ Tr B H B' H' ∧ whileM mt mb Z m ρ', ⟨n, B, ρ, hS, Tr.refl _ _, hm⟩, ?_⟩
  rintro m σ' H' ⟨B', ρ', hS', hT, hw⟩
  cases m with
  | zero => exact hw.elim
  | succ m =>
    refine hc B' H' σ' ρ' hS'.sta (fun b => if b = true then mb { nx := whileM mt mb Z m, rt := Z.rt, bk := Z.nx, ct := whileM mt mb Z m } ρ' else Z.nx ρ') _ (fun b H1 q b1 ok1 => ?_) hw
    obtain ⟨s1, t1⟩ := hS'.step b1 ok1
    have t2 := hT.trans t1
    cases b with
    | true =>
      refine ⟨fun σ2 H2 => ∃ B2 ρ2, Sg G B0 H0 B2 H2 σ2 ρ2 ∧ Tr B H B2 H2 ∧ whileM mt mb Z m ρ2, fun σ2 H2 h2 => ⟨m, Nat.lt_succ_self m, h2⟩, ?_⟩
      exact hb B0 H0 B' H1 σ' ρ' s1 { nx := whileM mt mb Z m, rt := Z.rt, bk := Z.nx, ct := whileM mt mb Z m } _ ⟨fun ρ2 σ2 B2 H3 z s t => ⟨B2, ρ2, s, t2.trans t, z⟩, C.rt, fun ρ2 σ2 B2 H3 z s t => C.nx ρ2 σ2 B2 H3 z s (t2.trans t), fun ρ2 σ2 B2 H3 z s t => ⟨B2, ρ2, s, t2.trans t, z⟩⟩ q
    | false => exact C.nx ρ' σ' B' H1 q s1 t2
/-- a while by an invariant with a measure -/
theorem while_inv {mt : MT} {mb : MS} {Z : Ed} (I : Nat → Rho → Prop) (step : ∀ n ρ, I n ρ → ∀ N : Rho → Prop, (∀ ρ' m, m < n → I m ρ' → N ρ') → mt ρ fun b => if b = true then mb { nx := N, rt := Z.rt, bk := Z.nx, ct := N } ρ else Z.nx ρ)
    (mono : ∀ (N N' : Rho → Prop) ρ, (∀ ρ, N ρ → N' ρ) → (mt ρ fun b => if b = true then mb { nx := N, rt := Z.rt, bk := Z.nx, ct := N } ρ else Z.nx ρ) → mt ρ fun b => if b = true then mb { nx := N', rt := Z.rt, bk := Z.nx, ct := N' } ρ else Z.nx ρ) :
    ∀ n ρ, I n ρ → whileM mt mb Z (n + 1) ρ := by
  have up : ∀ k ρ, whileM mt mb Z k ρ → whileM mt mb Z (k + 1) ρ := by
    intro k
    induction k with
    | zero => intro ρ h; exact h.elim
    | succ k ih => intro ρ h; exact mono _ _ ρ ih h
  have ups : ∀ k l ρ, k ≤ l → whileM mt mb Z k ρ → whileM mt mb Z l ρ := by
    intro k l ρ h w
    induction h with
    | refl => exact w
    | step _ ih => exact up _ ρ ih
  intro n
  induction n using Nat.strongRecOn with
  | ind n ih => exact fun ρ h => step n ρ h _ fun ρ' m hm hI => ups (m + 1) n ρ' hm (ih m hm ρ' hI)
/-! ### max and min of two ints -/
def rMax2 : List V → Hp → VK → Prop := fun xs H Q => ∃ i j, xs = [.int i, .int j] ∧ Q (.int (if j > i then j else i)) H
def rMin2 : List V → Hp → VK → Prop := fun xs H Q => ∃ i j, xs = [.int i, .int j] ∧ Q (.int (if j < i then j else i)) H
theorem max2K {X : Cx} (hc : X.calm = true) : CallR X (.builtin "max") rMax2 := call_max2 hc
theorem min2K {X : Cx} (hc : X.calm = true) : CallR X (.builtin "min") rMin2 := call_min2 hc
def maxF (ds : List D) (Q : D → Prop) : Prop := match ds with
  | [.int i, .int j] => Q (.int (if j > i then j else i))
  | _ => False
def minF (ds : List D) (Q : D → Prop) : Prop := match ds with
  | [.int i, .int j] => Q (.int (if j < i then j else i))
  | _ => False
theorem dts_ints2 {B H} {xs : List V} {i j : Int} (h : Dts G B H xs [.int i, .int j]) : xs = [.int i, .int j] := Dts.ints (ns := [i, j]) h
theorem calld_max : CallD G rMax2 maxF := by
  intro B H x dx ok hx Qd Q hQ hm
  unfold maxF at hm
  split at hm
  · exact ⟨_, _, dts_ints2 hx, hQ _ _ H hm (Bx.refl _ _) (.int _)⟩
  · exact hm.elim
theorem calld_min : CallD G rMin2 minF := by
  intro B H x dx ok hx Qd Q hQ hm
  unfold minF at hm
  split at hm
  · exact ⟨_, _, dts_ints2 hx, hQ _ _ H hm (Bx.refl _ _) (.int _)⟩
  · exact hm.elim
/-! ### a list of one's own that is looked at -/
def mIxO (i : Nat) (mk : ME) : ME := fun ρ Q => ownD ρ[i]? fun ds => mk ρ fun k => asInt k fun j => someD (atI ds j) Q
theorem evd_ixo {i : Nat} {tb : TE} {mb : ME} (hb : EvD G tb mb) : EvD G (tOp (rIx G.K) (tVar i) tb) (mIxO i mb) := by
  intro B H σ ρ hS Qd Q hQ hm
  unfold mIxO ownD at hm
  split at hm
  · rename_i ds e
    obtain ⟨a, vs, ea, ha, hB, hG, hd⟩ := hS.own i ds e
    refine ⟨_, ea, ?_⟩
    refine hb B H σ ρ hS (fun k => asInt k fun j => someD (atI ds j) Qd) _ (fun k kv H1 q b1 ok1 hk => ?_) hm
    cases hk with
    | int j =>
      obtain ⟨d, e1, q⟩ := someD_inv q
      have hd1 := hd.bx (b1.sub hS.ok.sub)
      obtain ⟨v, e2, hv⟩ := hd1.atI e1
      exact .inl ⟨a, vs, j, v, rfl, rfl, .inl (.inl (b1 a _ hG ha)), e2, hQ _ _ H1 q b1 ok1 hv⟩
    | _ => exact (show False from q).elim
  · exact hm.elim
def mLenO (i : Nat) : ME := fun ρ Q => ownD ρ[i]? fun ds => Q (.int ds.length)
theorem evd_leno {i : Nat} : EvD G (tCB (rLenU G.K) (tCons (tVar i) tNil)) (mLenO i) := by
  intro B H σ ρ hS Qd Q hQ hm
  unfold mLenO ownD at hm
  split at hm
  · rename_i ds e
    obtain ⟨a, vs, ea, ha, hB, hG, hd⟩ := hS.own i ds e
    refine ⟨_, ea, .inl ⟨a, vs, rfl, .inl (.inl (.inl ha)), ?_⟩⟩
    rw [hd.length]
    exact hQ _ _ H hm (Bx.refl _ _) hS.ok (.int _)
  · exact hm.elim
def mTruO (i : Nat) : MT := fun ρ Q => ownD ρ[i]? fun ds => Q (!ds.isEmpty)
theorem evt_truo {i : Nat} : EvT G (tTruK G.K (tVar i)) (mTruO i) := by
  intro B H σ ρ hS Qd Q hQ hm
  unfold mTruO ownD at hm
  split at hm
  · rename_i ds e
    obtain ⟨a, vs, ea, ha, hB, hG, hd⟩ := hS.own i ds e
    exact ⟨_, ea, _, .inl ⟨vs, .inl (.inl ha), rfl⟩, by rw [hd.isEmpty]; exact hQ _ H hm (Bx.refl _ _) hS.ok⟩
  · exact hm.elim
/-- x[k] = e -/
def putM (Z : Ed) (ρ : Rho) (i : Nat) (ds : List D) (d : D) (z : Int) : Prop := match ixN ds.length z with
  | some j => Z.nx (ρ.set i (.own (ds.set j d)))
  | none => False
def sPut (i : Nat) (me mk : ME) : MS := fun Z ρ => ownD ρ[i]? fun ds => me ρ fun d => mk ρ fun k => asInt k fun z => putM Z ρ i ds d z
theorem Dts.set {B H} : ∀ {vs : List V} {ds : List D} {v : V} {d : D} (j : Nat), Dts G B H vs ds → Dt G B H v d → Dts G B H (vs.set j v) (ds.set j d)
  | _, _, _, _, _, .nil, _ => .nil
  | _, _, _, _, 0, .cons _ t, h => .cons h t
  | _, _, _, _, j + 1, .cons a t, h => .cons a (Dts.set j t h)
theorem evs_put {i : Nat} {te tk : TE} {me mk : ME} (he : EvD G te me) (hk : EvD G tk mk) : EvS G (tAsg te (gSub (tVar i) tk rSetL)) (sPut i me mk) := by
  intro B0 H0 B H σ ρ hS Z E C hm
  unfold sPut ownD at hm
  split at hm
  · rename_i ds hρ
    obtain ⟨a, vs, ea, ha0, hB, hG, hd0⟩ := hS.sta.own i ds hρ
    refine he B H σ ρ hS.sta (fun d => mk ρ fun k => asInt k fun z => putM Z ρ i ds d z) _ (fun d v H1 q b1 ok1 hv => ?_) hm
    obtain ⟨s1, t1⟩ := hS.step b1 ok1
    have ha : H1 a = some (.lst vs) := b1 a _ hG ha0
    have hd := hd0.bx (b1.sub hS.sta.ok.sub)
    refine ⟨_, ea, ?_⟩
    refine hk B H1 σ ρ s1.sta (fun k => asInt k fun z => putM Z ρ i ds d z) _ (fun k kv H2 q b2 ok2 hk2 => ?_) q
    obtain ⟨s2, t2⟩ := s1.step b2 ok2
    cases hk2 with
    | int z =>
      have q' : putM Z ρ i ds d z := q
      unfold putM at q'
      have ha2 : H2 a = some (.lst vs) := b2 a _ hG ha
      have hd2 := hd.bx (b2.sub s1.sta.ok.sub)
      split at q'
      · rename_i j ej
        obtain ⟨h0, n0⟩ := hS.own.1 i ds a hρ ea
        refine ⟨a, vs, z, j, rfl, rfl, ha2, by rw [hd2.length]; exact ej, ?_⟩
        refine C.nx _ _ B _ q' ⟨s2.sta.putOwn hρ ea hB hG (hd2.set j (hv.bx (b2.sub s1.sta.ok.sub))), fun x o n y => ?_, hS.up, hS.fr, ⟨fun l es b e1 e2 => ?_, fun b C fs e => hS.own.2 b C fs (slf_set (fun _ _ _ z => by cases z) e).2⟩, hS.bg⟩ ((t1.trans t2).trans fun x o n y => ⟨n, by rw [upd_ne (fun w => n (by rw [w]; exact hB))]; exact y⟩)
        · have : x ≠ a := fun w => by rw [w, h0] at y; cases y
          rw [upd_ne this]; exact s2.bx x o n y
        · rcases set_get e1 with ⟨rfl, _, _⟩ | ⟨_, e1⟩
          · exact hS.own.1 l ds b hρ e2
          · exact hS.own.1 l es b e1 e2
      · exact q'.elim
    | _ => exact (show False from q).elim
  · exact hm.elim
/-! ### o.f -/
theorem dfs_lookup {B H} {f : Str} {d : D} : ∀ {fs : List (Str × V)} {ds : List (Str × D)}, Dfs G B H fs ds → ds.lookup f = some d → ∃ v, fs.lookup f = some v ∧ Dt G B H v d
  | _, [], .nil, e => by cases e
  | (k, v) :: fs, (_, e) :: ds, h, q => by
    cases h with
    | cons h1 h2 =>
      rw [List.lookup_cons] at q ⊢
      split at q
      · rename_i z
        cases q
        exact ⟨v, rfl, h1⟩
      · rename_i z
        obtain ⟨w, q1, q2⟩ := dfs_lookup h2 q
        exact ⟨w, q1, q2⟩
def objF (C : Addr) (f : Str) (d : D) (Q : D → Prop) : Prop := match d with
  | .obj C' ds => C' = C ∧ someD (ds.lookup f) Q
  | _ => False
def mFld (C : Addr) (f : Str) (m : ME) : ME := fun ρ Q => m ρ fun d => objF C f d Q
theorem evd_fld {C : Addr} {f : Str} {ta : TE} {ma : ME} (c : Cls G.K C) (na : NoAttr G.K C f) (ha : EvD G ta ma) : EvD G (tFld G.K ta f) (mFld C f ma) := by
  intro B H σ ρ hS Qd Q hQ hm
  refine ha B H σ ρ hS (fun d => objF C f d Qd) _ (fun d v H1 q b1 ok1 hd => ?_) hm
  cases hd with
  | obj h1 n1 s1 =>
    obtain ⟨rfl, q⟩ := q
    obtain ⟨d, e, q⟩ := someD_inv q
    obtain ⟨v, e1, e2⟩ := dfs_lookup s1 e
    exact ⟨_, _, _, _, v, rfl, h1, c, na, e1, hQ _ _ H1 q b1 ok1 e2⟩
  | _ => exact (show False from q).elim
end
end Dz

namespace Dz
open PySem PySem.Spec PyProof.Rows L2
section
variable {G : Ga}
def rIns : V → List V → Hp → VK → Prop := fun x vs H Q => ∃ (l : Addr) (xs : List V) (i : Int) (y : V), x = .ref l ∧ vs = [.int i, y] ∧ H l = some (.lst xs) ∧ xs.length < sizeLine ∧ 0 ≤ i ∧ i < 2 ^ 63 ∧ Q .non (upd H l (.lst (xs.take i.toNat ++ [y] ++ xs.drop i.toNat)))
theorem mt_ins {X : Cx} : MtR X "list.insert" rIns := mt_insert
/-- a step that changes what an own list holds -/
theorem Sg.putOwn {B0 B : Bs} {H0 H1 : Hp} {σ : L2.St} {ρ : Rho} (s1 : Sg G B0 H0 B H1 σ ρ) {a : Addr} {i : Nat} {vs' : List V} {ds ds' : List D} (e : ρ[i]? = some (Slot.own ds)) (ea : σ[i]? = some (some (V.ref a))) (hd : Dts G B H1 vs' ds') :
    Sg G B0 H0 B (upd H1 a (.lst vs')) σ (ρ.set i (.own ds')) ∧ Tr B H1 B (upd H1 a (.lst vs')) := by
  obtain ⟨a', vs, ea', ha, hB, hG, _⟩ := s1.sta.own i ds e
  have : a' = a := by rw [ea'] at ea; cases ea; rfl
  subst this
  obtain ⟨h0, n0⟩ := s1.own.1 i ds a' e ea
  refine ⟨⟨s1.sta.putOwn e ea hB hG hd, fun x o n z => ?_, s1.up, s1.fr, ⟨fun j es b e1 e2 => ?_, fun b C fs e => s1.own.2 b C fs (slf_set (fun _ _ _ z => by cases z) e).2⟩, s1.bg⟩, fun x o n z => ⟨n, by rw [upd_ne (fun y => n (by rw [y]; exact hB))]; exact z⟩⟩
  · have : x ≠ a' := fun y => by rw [y, h0] at z; cases z
    rw [upd_ne this]; exact s1.bx x o n z
  · rcases set_get e1 with ⟨rfl, _, _⟩ | ⟨_, e1⟩
    · exact s1.own.1 j ds b e e2
    · exact s1.own.1 j es b e1 e2
/-- x.insert(k, e) -/
def sIns (i : Nat) (mk me : ME) : MS := fun Z ρ => ownD ρ[i]? fun ds => mk ρ fun k => me ρ fun d => asInt k fun z => (ds.length < sizeLine ∧ 0 ≤ z ∧ z < 2 ^ 63) ∧ Z.nx (ρ.set i (.own (ds.take z.toNat ++ [d] ++ ds.drop z.toNat)))
theorem evs_ins {i : Nat} {tk te : TE} {mk me : ME} (hk : EvD G tk mk) (he : EvD G te me) : EvS G (tDrop (tBM G.K "list" rIns (tVar i) (tCons tk (tCons te tNil)))) (sIns i mk me) := by
  intro B0 H0 B H σ ρ hS Z E C hm
  unfold sIns ownD at hm
  split at hm
  · rename_i ds e
    obtain ⟨a, vs, ea, ha, hB, hG, hd⟩ := hS.sta.own i ds e
    refine ⟨_, ea, .inl ⟨rfl, _, .inl (.inl ha)⟩, ?_⟩
    refine hk B H σ ρ hS.sta (fun k => me ρ fun d => asInt k fun z => (ds.length < sizeLine ∧ 0 ≤ z ∧ z < 2 ^ 63) ∧ Z.nx (ρ.set i (.own (ds.take z.toNat ++ [d] ++ ds.drop z.toNat)))) _ (fun k kv H1 q b1 ok1 hkv => ?_) hm
    obtain ⟨s1, t1⟩ := hS.step b1 ok1
    refine he B H1 σ ρ s1.sta (fun d => asInt k fun z => (ds.length < sizeLine ∧ 0 ≤ z ∧ z < 2 ^ 63) ∧ Z.nx (ρ.set i (.own (ds.take z.toNat ++ [d] ++ ds.drop z.toNat)))) _ (fun d v H2 q b2 ok2 hv => ?_) q
    obtain ⟨s2, t2⟩ := s1.step b2 ok2
    cases hkv with
    | int z =>
      obtain ⟨⟨h1, h2, h3⟩, q⟩ := (show (ds.length < sizeLine ∧ 0 ≤ z ∧ z < 2 ^ 63) ∧ Z.nx (ρ.set i (.own (ds.take z.toNat ++ [d] ++ ds.drop z.toNat))) from q)
      have ha2 : H2 a = some (.lst vs) := b2 a _ hG (b1 a _ hG ha)
      have hd2 := (hd.bx (b1.sub hS.sta.ok.sub)).bx (b2.sub s1.sta.ok.sub)
      obtain ⟨s3, t3⟩ := s2.putOwn e ea (((hd2.take z.toNat).append (.cons hv .nil)).append (hd2.drop z.toNat))
      exact ⟨a, vs, z, v, rfl, rfl, ha2, by rw [hd2.length]; exact h1, h2, h3, C.nx _ _ B _ q s3 ((t1.trans t2).trans t3)⟩
    | _ => exact (show False from q).elim
  · exact hm.elim
/-! ### methods -/
theorem dfs_none {B H} {f : Str} : ∀ {fs : List (Str × V)} {ds : List (Str × D)}, Dfs G B H fs ds → ds.lookup f = none → fs.lookup f = none
  | _, [], .nil, _ => rfl
  | (k, v) :: fs, (_, e) :: ds, h, q => by
    cases h with
    | cons h1 h2 =>
      rw [List.lookup_cons] at q ⊢
      split at q
      · cases q
      · exact dfs_none h2 q
def methF (C : Addr) (m : Str) (n : Nat) (f : List D → MD) (es : List D) (o : D) (ds : List D) (Q : D → Prop) : Prop := (o :: (ds ++ es)).length = n ∧ f (o :: (ds ++ es)) Q
def isObj (C : Addr) (m : Str) (d : D) (Q : Prop) : Prop := match d with
  | .obj C' fs => (C' = C ∧ fs.lookup m = none) ∧ Q
  | _ => False
/-- o.m(..) -/
def mMeth (C : Addr) (m : Str) (n : Nat) (f : List D → MD) (es : List D) (mo : ME) (mA : MA) : ME := fun ρ Q => mo ρ fun o => isObj C m o (mA ρ fun ds => methF C m n f es o ds Q)
theorem evd_meth {C : Addr} {m : Str} {n : Nat} {F : List D → MD} {dvs : List V} {es : List D} {E : XK} {to : TE} {mo : ME} {tA : TA} {mA : MA} (hdv : ∀ B H, Dts G B H dvs es) (ho : EvD G to mo) (ha : EvA G tA mA) :
    EvD G (tMeth C m (spM G.K n F) dvs E to tA) (mMeth C m n F es mo mA) := by
  intro B H σ ρ hS Qd Q hQ hm
  refine ho B H σ ρ hS (fun o => isObj C m o (mA ρ fun ds => methF C m n F es o ds Qd)) _ (fun o ov H1 q b1 ok1 hov => ?_) hm
  cases hov with
  | obj h1 n1 s1 =>
    obtain ⟨⟨rfl, hn⟩, q⟩ := q
    refine ⟨_, _, _, rfl, h1, dfs_none s1 hn, ?_⟩
    refine ha B H1 σ ρ (hS.bx b1 ok1) (fun ds => methF _ m n F es _ ds Qd) _ (fun ds vs H2 q b2 ok2 hd => ?_) q
    exact ⟨G.b, B, _, Qd, ok2, .cons ((Dt.obj h1 n1 s1).bx (b2.sub ok1.sub)) (hd.append (hdv B H2)), q.1, q.2, fun d v H3 q b3 ok3 hd => hQ d v H3 q ((b1.trans b2).trans b3) ok3 hd⟩
  | _ => exact (show False from q).elim
end
/-! ### defs that look at no repr -/
section
variable {P : Program} {w : World} {K : PySem.W.Frag} {mg : Str → Option Value} {base : Heap} {CX : CXT}
theorem FnG.ofOk {k : Nat} {f : Addr} {fd : FuncData} {ps : List Str} {sp : Sp} (F : FnOk P w K mg base CX k f fd ps sp) : FnG P w K mg base CX k f fd ps sp :=
  ⟨F.len, fun A outer s H args us vs Q E hr _ e0 hb hv hs => F.run A outer s H args us vs Q E hr e0 hb hv hs⟩
theorem fnOk_of {x qual : Str} {st : Stmt} {f : Addr} {fd : FuncData} {N ps : List Str} {k : Nat} {sp : Sp} (F : Fun K x qual st f fd) (S : FnScope N ps (defScope st)) (len : ∀ vs H Q E, sp vs H Q E → vs.length = ps.length)
    (hbody : ∀ (cdv : Value) (A : Around) (outer : List Env) (s : Shared) (H : Hp) (vs : List V) (Q : VK) (E : XK), Room k (A.deeper (envOfC qual (defScope st) s.heap.objs.size f cdv)) → sp vs H Q E →
      ∃ t, PSs (cxOf CX P w K mg base N qual (defScope st) f cdv A outer s H E) (defBody st) t ∧ t { nx := fun _ H' => Q .non H', rt := Q } (L2.start N vs) H) : FnOk P w K mg base CX (k + 1) f fd ps sp := by
  obtain ⟨oc, od, kV, doc, pm, an, cdv, ct, osl, rfl, lk, hcd⟩ := F.ex
  exact fn_of lk hcd S len fun A outer s H vs Q E hr h => hbody cdv A outer s H vs Q E hr h
end
end Dz

namespace Dz
open PySem PySem.Spec PyProof.Rows L2
section
variable {G : Ga} {B : Bs} {H : Hp}
def tupI (ns : List Int) : D := .tup (ns.map D.int)
theorem dts_perm : ∀ {ys vs : List V}, ys.Perm vs → ∀ {L : List (List Int)}, Dts G B H vs (L.map tupI) → ∃ L' : List (List Int), L'.Perm L ∧ Dts G B H ys (L'.map tupI) := by
  intro ys vs p
  induction p with
  | nil => exact fun h => ⟨_, .refl _, h⟩
  | cons x p ih =>
    intro L h
    cases L with
    | nil => cases h
    | cons n L =>
      rw [List.map_cons] at h
      cases h with
      | cons h1 h2 =>
        obtain ⟨L', p', h'⟩ := ih h2
        exact ⟨n :: L', p'.cons n, .cons h1 h'⟩
  | swap x y l =>
    intro L h
    match L, h with
    | n :: m :: L, h =>
      rw [List.map_cons, List.map_cons] at h
      cases h with
      | cons h1 h2 =>
        cases h2 with
        | cons h3 h4 => exact ⟨m :: n :: L, .swap _ _ _, .cons h3 (.cons h1 h4)⟩
    | [n], h => cases h with | cons _ t => cases t
    | [], h => cases h
  | trans _ _ ih1 ih2 =>
    intro L h
    obtain ⟨L1, p1, h1⟩ := ih2 h
    obtain ⟨L2, p2, h2⟩ := ih1 h1
    exact ⟨L2, p2.trans p1, h2⟩
theorem dts_mem : ∀ {ys : List V} {L : List (List Int)} {m : List Int}, Dts G B H ys (L.map tupI) → m ∈ L → ∃ y ∈ ys, Dt G B H y (tupI m)
  | _, [], _, _, h => by cases h
  | ys, n :: L, m, h, hm => by
    rw [List.map_cons] at h
    cases h with
    | cons h1 h2 =>
      rcases List.mem_cons.mp hm with rfl | hm
      · exact ⟨_, List.mem_cons_self, h1⟩
      · obtain ⟨y, hy, k⟩ := dts_mem h2 hm
        exact ⟨y, List.mem_cons_of_mem _ hy, k⟩
theorem dts_mem' : ∀ {ys : List V} {L : List (List Int)} {y : V}, Dts G B H ys (L.map tupI) → y ∈ ys → ∃ m ∈ L, Dt G B H y (tupI m)
  | _, [], _, h, hy => by cases h; cases hy
  | ys, n :: L, y, h, hy => by
    rw [List.map_cons] at h
    cases h with
    | cons h1 h2 =>
      rcases List.mem_cons.mp hy with rfl | hy
      · exact ⟨n, List.mem_cons_self, h1⟩
      · obtain ⟨m, hm, k⟩ := dts_mem' h2 hy
        exact ⟨m, List.mem_cons_of_mem _ hm, k⟩
theorem dt_tupI {y : V} {m : List Int} (h : Dt G B H y (tupI m)) : TupI G.K H y m := by
  unfold tupI at h
  cases h with
  | tup t s =>
    have := s.ints
    subst this
    exact ⟨_, rfl, t.sq⟩
theorem pairs_of {R : List Int → List Int → Prop} : ∀ {ys : List V} {L : List (List Int)}, Dts G B H ys (L.map tupI) → ys.Pairwise (fun x y => ∀ n m, TupI G.K H x n → TupI G.K H y m → R n m) → L.Pairwise R
  | _, [], _, _ => .nil
  | ys, n :: L, h, hp => by
    rw [List.map_cons] at h
    cases h with
    | cons h1 h2 =>
      cases hp with
      | cons p1 p2 =>
        refine .cons (fun m hm => ?_) (pairs_of h2 p2)
        obtain ⟨y, hy, k⟩ := dts_mem h2 hm
        exact p1 y hy n m (dt_tupI h1) (dt_tupI k)
/-- sorted of tuples of d ints -/
def sortF (d : Nat) (Bd : Int) (ds : List D) (Q : D → Prop) : Prop := match ds with
  | [.lst xs] => ∃ L : List (List Int), xs = L.map tupI ∧ L.length < 64 ∧ (∀ n ∈ L, n.length = d ∧ TS.Bd Bd n) ∧ ∀ L' : List (List Int), L'.Perm L → L'.Pairwise (fun n m => TS.code Bd n ≤ TS.code Bd m) → Q (.lst (L'.map tupI))
  | _ => False
theorem calld_sort {d : Nat} {Bd : Int} : CallD G (rSortU G.K d Bd) (sortF d Bd) := by
  intro B H x dx ok hx Qd Q hQ hm
  unfold sortF at hm
  split at hm
  · obtain ⟨L, rfl, hl, hb, q⟩ := hm
    obtain ⟨v, rfl, hv⟩ := hx.one
    cases hv with
    | lst h1 n1 s1 =>
      refine ⟨_, _, rfl, .inl (.inl h1), by rw [s1.length, List.length_map]; exact hl, fun y hy => ?_, fun ys p hp hw hn => ?_⟩
      · obtain ⟨m, hm, k⟩ := dts_mem' s1 hy
        exact ⟨m, dt_tupI k, hb m hm⟩
      · obtain ⟨L', pL, hd⟩ := dts_perm hp s1
        exact hQ _ _ _ (q L' pL (pairs_of hd hw)) (Bx.new hn) (dt_newL ok hn hd)
  · exact hm.elim
/-! ### enumerate(xs) -/
def enumD : Nat → List D → List D
  | _, [] => []
  | k, d :: ds => .tup [.int (k : Int), d] :: enumD (k + 1) ds
theorem enumD_len : ∀ (k : Nat) (ds : List D), (enumD k ds).length = ds.length
  | _, [] => rfl
  | k, d :: ds => by rw [enumD, List.length_cons, List.length_cons, enumD_len]
theorem enumD_get : ∀ (k : Nat) (ds : List D) (i : Nat) (e : D), (enumD k ds)[i]? = some e → ∃ d, ds[i]? = some d ∧ e = .tup [.int ((k + i : Nat) : Int), d]
  | _, [], i, e, h => by simp [enumD] at h
  | k, d :: ds, 0, e, h => by
    simp [enumD] at h
    exact ⟨d, rfl, h.symm⟩
  | k, d :: ds, i + 1, e, h => by
    simp only [enumD, List.getElem?_cons_succ] at h
    obtain ⟨x, h1, h2⟩ := enumD_get (k + 1) ds i e h
    exact ⟨x, by simpa using h1, by rw [h2]; congr 4; omega⟩
theorem itd_enum {a : Addr} {vs : List V} {ds : List D} (h1 : H a = some (.lst vs)) (h2 : a ∉ B) (h3 : Dts G B H vs ds) : ItD G B H (Ite G.K a) (enumD 0 ds) := by
  intro B' H' k ok i
  have e1 := (k _ _ h2 h1).2
  have q1 : SqL G.K H' a vs := .inl (.inl e1)
  have h4 : Dts G B' H' vs ds := h3.to k
  refine ⟨fun e => ⟨vs, q1, by rw [h3.length, e, enumD_len]; exact Nat.le_refl _⟩, fun d e => ?_⟩
  obtain ⟨d', ed, rfl⟩ := enumD_get 0 ds i d e
  obtain ⟨v, ev, hv⟩ := h4.get ed
  refine ⟨⟨vs, v, q1, ev⟩, fun x H'' hy => ?_⟩
  obtain ⟨T, w, rfl, hT, rfl, f⟩ := hy
  have : v = w := Option.some.inj (ev.symm.trans (f _ q1))
  subst this
  refine ⟨Bx.new hT, dt_newT ok hT ?_⟩
  rw [Nat.zero_add]
  exact .cons (.int _) (.cons hv .nil)
def miEnum (m : MA) : MA := fun ρ Q => m ρ fun ds => match ds with
  | [.lst xs] => Q (enumD 0 xs)
  | _ => False
theorem evi_enum {tA : TA} {mA : MA} (h : EvA G tA mA) : EvI G (iEnum G.K tA) (miEnum mA) := by
  intro B H σ ρ hS Qd Q hQ hm
  refine h B H σ ρ hS (fun ds => match ds with
    | [.lst xs] => Qd (enumD 0 xs)
    | _ => False) _ (fun ds v H1 q b1 ok1 hd => ?_) hm
  split at q
  · obtain ⟨w, rfl, hv⟩ := hd.one
    cases hv with
    | lst h1 h2 h3 => exact ⟨_, _, rfl, .inl (.inl h1), hQ _ _ H1 q b1 ok1 (itd_enum h1 h2 h3)⟩
  · exact q.elim
theorem pi_enumK {X : Cx} {K : PySem.W.Frag} (h : X.K = K) {e : Expr} {ta : TA} {p pos tpos : Pos} {elts : List Expr} {kk : Nat} (hg : Gl X "enumerate") (hm : X.mg "enumerate" = none) (he : PA X [e] ta) (hs : starEach [e] X.env = [(false, eval e X.env)] := by rfl) :
    PI X (.Tuple elts kk tpos) (.Call (.Name "enumerate" p) [e] [] pos) (iEnum K ta) := by subst h; exact pi_enum hg hm he hs
/-! ### a statement that is never reached -/
def sNever : MS := fun _ _ => False
theorem evs_never : EvS G tNever sNever := fun _ _ _ _ _ _ _ _ _ _ h => h.elim
end
end Dz

namespace Dz
open PySem PySem.Spec PyProof.Rows L2
/-! ### data without lists -/
mutual
def D.nol : D → Bool
  | .lst _ => false
  | .tup xs => D.nolAll xs
  | .dic kvs => D.nolKv kvs
  | .obj _ fs => D.nolFs fs
  | _ => true
def D.nolAll : List D → Bool
  | [] => true
  | d :: ds => d.nol && D.nolAll ds
def D.nolKv : List (Key × D) → Bool
  | [] => true
  | (_, d) :: ds => d.nol && D.nolKv ds
def D.nolFs : List (Str × D) → Bool
  | [] => true
  | (_, d) :: ds => d.nol && D.nolFs ds
end
section
variable {G : Ga} {B B' : Bs} {H : Hp}
theorem no_lst {x : Addr} {o : HO} (k : ∀ x ∈ B', x ∈ B ∨ ∃ vs, H x = some (.lst vs)) (h : H x = some o) (n : x ∉ B) (ho : ∀ vs, o ≠ .lst vs) : x ∉ B' := fun z => by
  rcases k x z with z | ⟨vs, z⟩
  · exact n z
  · rw [h] at z; exact ho vs (Option.some.inj z)
mutual
theorem Dt.keepN (k : ∀ x ∈ B', x ∈ B ∨ ∃ vs, H x = some (.lst vs)) : ∀ {v : V} {d : D}, Dt G B H v d → d.nol = true → Dt G B' H v d
  | _, _, .non, _ => .non
  | _, _, .bl b, _ => .bl b
  | _, _, .int i, _ => .int i
  | _, _, .str x, _ => .str x
  | _, _, .tup h hs, e => by
    refine .tup ?_ (Dts.keepN k hs (by simpa only [D.nol] using e))
    rcases h with ⟨h, hn⟩ | h
    · exact .inl ⟨h, no_lst k h hn fun _ z => by cases z⟩
    · exact .inr h
  | _, _, .lst _ _ _, e => by simp [D.nol] at e
  | _, _, .dic h hn hs, e => .dic h (no_lst k h hn fun _ z => by cases z) (Dkv.keepN k hs (by simpa only [D.nol] using e))
  | _, _, .obj h hn hs, e => .obj h (no_lst k h hn fun _ z => by cases z) (Dfs.keepN k hs (by simpa only [D.nol] using e))
  | _, _, .ty n, _ => .ty n
  | _, _, .cls C, _ => .cls C
  | _, _, .bag h, _ => .bag h
theorem Dts.keepN (k : ∀ x ∈ B', x ∈ B ∨ ∃ vs, H x = some (.lst vs)) : ∀ {v : List V} {d : List D}, Dts G B H v d → D.nolAll d = true → Dts G B' H v d
  | _, _, .nil, _ => .nil
  | _, _, .cons h hs, e => by
    rw [D.nolAll, Bool.and_eq_true] at e
    exact .cons (Dt.keepN k h e.1) (Dts.keepN k hs e.2)
theorem Dkv.keepN (k : ∀ x ∈ B', x ∈ B ∨ ∃ vs, H x = some (.lst vs)) : ∀ {v : List (Key × V)} {d : List (Key × D)}, Dkv G B H v d → D.nolKv d = true → Dkv G B' H v d
  | _, _, .nil, _ => .nil
  | _, _, .cons h hs, e => by
    rw [D.nolKv, Bool.and_eq_true] at e
    exact .cons (Dt.keepN k h e.1) (Dkv.keepN k hs e.2)
theorem Dfs.keepN (k : ∀ x ∈ B', x ∈ B ∨ ∃ vs, H x = some (.lst vs)) : ∀ {v : List (Str × V)} {d : List (Str × D)}, Dfs G B H v d → D.nolFs d = true → Dfs G B' H v d
  | _, _, .nil, _ => .nil
  | _, _, .cons h hs, e => by
    rw [D.nolFs, Bool.and_eq_true] at e
    exact .cons (Dt.keepN k h e.1) (Dfs.keepN k hs e.2)
end
end
/-! ### a list that a call has made is one's own -/
def Slot.cl : Slot → Slot
  | .val d => if d.nol = true then .val d else .no
  | _ => .no
def clR (ρ : Rho) : Rho := ρ.map Slot.cl
/-- all places of lists, too -/
def Bs.lists (H : Hp) (B : Bs) : Bs := fun x => x ∈ B ∨ ∃ vs, H x = some (.lst vs)
section
variable {G : Ga} {B B0 : Bs} {H H0 : Hp} {σ : L2.St} {ρ : Rho}
theorem cl_val {ρ : Rho} {i : Nat} {d : D} (e : (clR ρ)[i]? = some (Slot.val d)) : ρ[i]? = some (Slot.val d) ∧ d.nol = true := by
  unfold clR at e
  rw [List.getElem?_map] at e
  cases q : ρ[i]? with
  | none => rw [q] at e; cases e
  | some s =>
    rw [q] at e
    cases s with
    | val d' =>
      have e' : Slot.cl (.val d') = .val d := Option.some.inj e
      unfold Slot.cl at e'
      by_cases hn : d'.nol = true
      · simp only [if_pos hn] at e'
        cases e'
        exact ⟨rfl, hn⟩
      · simp only [if_neg hn] at e'
        cases e'
    | no => cases e
    | own ds => cases e
    | slf a C fs => cases e
theorem cl_own {ρ : Rho} {i : Nat} {ds : List D} : (clR ρ)[i]? ≠ some (Slot.own ds) := fun e => by
  unfold clR at e
  rw [List.getElem?_map] at e
  cases q : ρ[i]? with
  | none => rw [q] at e; cases e
  | some s =>
    rw [q] at e
    cases s with
    | val d' =>
      have e' : Slot.cl (.val d') = .own ds := Option.some.inj e
      unfold Slot.cl at e'
      by_cases hn : d'.nol = true
      · simp only [if_pos hn] at e'; cases e'
      · simp only [if_neg hn] at e'; cases e'
    | no => cases e
    | own ds => cases e
    | slf a C fs => cases e
theorem cl_slf {ρ : Rho} {i : Nat} {a C : Addr} {fs : List (Str × D)} : (clR ρ)[i]? ≠ some (Slot.slf a C fs) := fun e => by
  unfold clR at e
  rw [List.getElem?_map] at e
  cases q : ρ[i]? with
  | none => rw [q] at e; cases e
  | some s =>
    rw [q] at e
    cases s with
    | val d' =>
      have e' : Slot.cl (.val d') = .slf a C fs := Option.some.inj e
      unfold Slot.cl at e'
      by_cases hn : d'.nol = true
      · simp only [if_pos hn] at e'; cases e'
      · simp only [if_neg hn] at e'; cases e'
    | no => cases e
    | own ds => cases e
    | slf a C fs => cases e
theorem Sta.lists (h : Sta G B H σ ρ) : Sta G (B.lists H) H σ (clR ρ) := by
  refine ⟨⟨fun a ha => ?_, fun b c e => ?_⟩, by simp [clR, h.len], fun i d e => ?_, fun i ds e => absurd e cl_own, fun i j ds es a e _ _ _ => absurd e cl_own, fun a C fs e => absurd e cl_slf⟩
  · rcases ha with ha | ⟨vs, ha⟩
    · exact h.ok.al a ha
    · rw [ha]; simp
  · obtain ⟨h1, h2, h3⟩ := h.ok.bg b c e
    exact ⟨.inl h1, .inl h2, h3⟩
  · obtain ⟨e1, e2⟩ := cl_val e
    obtain ⟨v, e3, e4⟩ := h.val i d e1
    exact ⟨v, e3, e4.keepN (fun x hx => hx) e2⟩
def newD (d : D) (P : List D → Prop) (Q : D → Prop) : Prop := match d with
  | .lst ds => D.nolAll ds = true ∧ P ds
  | d => Q d
/-- x = e, where a list that e gives is new -/
def sNew (i : Nat) (m : ME) : MS := fun Z ρ => m (clR ρ) fun d => newD d (fun ds => Z.nx (ρ.set i (.own ds))) fun d => Z.nx (ρ.set i (.val d))
theorem evs_new {i : Nat} {te : TE} {me : ME} (h : EvD G te me) : EvS G (tAsg te (gName i)) (sNew i me) := by
  intro B0 H0 B H σ ρ hS Z E C hm
  refine h (B.lists H) H σ (clR ρ) hS.sta.lists (fun d => newD d (fun ds => Z.nx (ρ.set i (.own ds))) fun d => Z.nx (ρ.set i (.val d))) _ (fun d v H1 q b1 ok1 hd => ?_) hm
  have okB : Ok G B H1 := ok1.less (fun a ha => .inl ha) hS.sta.ok.sub
  obtain ⟨s1, t1⟩ := hS.step b1 okB
  have plain : ∀ d', Dt G (B.lists H) H1 v d' → Z.nx (ρ.set i (.val d')) → E.nx (σ.set i (some v)) H1 := fun d' hd' q' => by
    refine C.nx _ _ B H1 q' ⟨s1.sta.set (hd'.less fun a ha => .inl ha), s1.bx, hS.up, hS.fr, ⟨fun j ds a e1 e2 => ?_, fun b C fs e => hS.own.2 b C fs (slf_set (fun _ _ _ z => by cases z) e).2⟩, hS.bg⟩ t1
    obtain ⟨n, o1⟩ := (set_get e1).resolve_left fun z => by cases z.2.1
    rw [List.getElem?_set_ne (Ne.symm n)] at e2
    exact hS.own.1 j ds a o1 e2
  cases hd with
  | lst ha na hds =>
    rename_i a vs ds
    obtain ⟨hn, q⟩ := q
    have n0 : H a = none := by
      cases z : H a with
      | none => rfl
      | some o =>
        have nG : a ∉ G.c := fun y => na (.inl (hS.sta.ok.sub a y))
        have e := b1 a o nG z
        rw [ha] at e
        cases e
        exact absurd (.inr ⟨vs, z⟩) na
    obtain ⟨k1, k2, k3, k4⟩ := hS.nc n0
    have hds' : Dts G (.cons a B) H1 vs ds := hds.keepN (fun x hx => by
      rcases hx with rfl | hx
      · exact .inr ⟨vs, ha⟩
      · exact .inl (.inl hx)) hn
    have old : ∀ {w : V} {d : D}, Dt G B H w d → Dt G (.cons a B) H1 w d := fun hw => hw.to fun x o n e => by
      have : x ≠ a := ne_of_none e n0
      exact ⟨fun z => z.elim this n, b1 x o (fun z => n (hS.sta.ok.sub x z)) e⟩
    have olds : ∀ {w : List V} {d : List D}, Dts G B H w d → Dts G (.cons a B) H1 w d := fun hw => hw.to fun x o n e => by
      have : x ≠ a := ne_of_none e n0
      exact ⟨fun z => z.elim this n, b1 x o (fun z => n (hS.sta.ok.sub x z)) e⟩
    have oldf : ∀ {w : List (Str × V)} {d : List (Str × D)}, Dfs G B H w d → Dfs G (.cons a B) H1 w d := fun hw => hw.to fun x o n e => by
      have : x ≠ a := ne_of_none e n0
      exact ⟨fun z => z.elim this n, b1 x o (fun z => n (hS.sta.ok.sub x z)) e⟩
    have ok2 : Ok G (.cons a B) H1 := ⟨fun x hx => by
      rcases hx with rfl | hx
      · rw [ha]; simp
      · exact okB.al x hx, fun b c e => by
      obtain ⟨h1, h2, h3⟩ := okB.bg b c e
      exact ⟨.inr h1, .inr h2, h3⟩⟩
    have notA : ∀ j es, ρ[j]? = some (Slot.own es) → σ[j]? ≠ some (some (V.ref a)) := fun j es e z => by
      obtain ⟨a', us, q1, q2, _⟩ := hS.sta.own j es e
      rw [q1] at z
      cases z
      rw [n0] at q2; cases q2
    have sta2 : Sta G (.cons a B) H1 (σ.set i (some (.ref a))) (ρ.set i (.own ds)) := by
      refine ⟨ok2, by simp [hS.sta.len], fun j e he => ?_, fun j es he => ?_, fun j l ds1 es1 b e1 e2 e3 e4 => ?_, fun b C fs e => ?_⟩
      · rcases set_get he with ⟨_, z, _⟩ | ⟨n, z⟩
        · cases z
        · rw [List.getElem?_set_ne (Ne.symm n)]
          obtain ⟨w, w1, w2⟩ := hS.sta.val j e z
          exact ⟨w, w1, old w2⟩
      · rcases set_get he with ⟨rfl, z, hl⟩ | ⟨n, z⟩
        · cases z
          rw [List.getElem?_set, if_pos rfl, if_pos (by rw [← hS.sta.len]; exact hl)]
          exact ⟨a, vs, rfl, ha, .inl rfl, k3, hds'⟩
        · rw [List.getElem?_set_ne (Ne.symm n)]
          obtain ⟨b, us, q1, q2, q3, q4, q5⟩ := hS.sta.own j es z
          exact ⟨b, us, q1, b1 b _ q4 q2, .inr q3, q4, olds q5⟩
      · rcases set_get e1 with ⟨rfl, _, hl⟩ | ⟨n1, e1⟩
        · rcases set_get e2 with ⟨rfl, _, _⟩ | ⟨n2, e2⟩
          · rfl
          · rw [List.getElem?_set, if_pos rfl, if_pos (by rw [← hS.sta.len]; exact hl)] at e3
            cases e3
            rw [List.getElem?_set_ne (Ne.symm n2)] at e4
            exact absurd e4 (notA l es1 e2)
        · rw [List.getElem?_set_ne (Ne.symm n1)] at e3
          rcases set_get e2 with ⟨z, _, hl⟩ | ⟨n2, e2⟩
          · rw [z, List.getElem?_set, if_pos rfl, if_pos (by rw [← hS.sta.len]; exact hl)] at e4
            cases e4
            exact absurd e3 (notA j ds1 e1)
          · rw [List.getElem?_set_ne (Ne.symm n2)] at e4
            exact hS.sta.inj j l ds1 es1 b e1 e2 e3 e4
      · obtain ⟨n, e⟩ := slf_set (fun _ _ _ z => by cases z) e
        rw [List.getElem?_set_ne n]
        obtain ⟨dx, gs, q1, q2, q3, q4, q5⟩ := hS.sta.slf b C fs e
        exact ⟨dx, gs, q1, b1 b _ q4 q2, .inr q3, q4, oldf q5⟩
    refine C.nx _ _ (.cons a B) H1 q ⟨sta2, s1.bx, fun x hx => .inr (hS.up x hx), fun x hx => ?_, ⟨fun j es b e1 e2 => ?_, fun b C fs e => hS.own.2 b C fs (slf_set (fun _ _ _ z => by cases z) e).2⟩, hS.bg⟩ (fun x o n e => ⟨fun z => z.elim (ne_of_none e n0) n, b1 x o (fun z => n (hS.sta.ok.sub x z)) e⟩)
    · rcases hx with rfl | hx
      · exact .inr k2
      · exact hS.fr x hx
    · rcases set_get e1 with ⟨rfl, _, hl⟩ | ⟨n, e1⟩
      · rw [List.getElem?_set, if_pos rfl, if_pos (by rw [← hS.sta.len]; exact hl)] at e2
        cases e2
        exact ⟨k2, k1⟩
      · rw [List.getElem?_set_ne (Ne.symm n)] at e2
        exact hS.own.1 j es b e1 e2
  | non => exact plain _ .non q
  | bl b => exact plain _ (.bl b) q
  | int b => exact plain _ (.int b) q
  | str b => exact plain _ (.str b) q
  | tup h1 h2 => exact plain _ (.tup h1 h2) q
  | dic h1 h2 h3 => exact plain _ (.dic h1 h2 h3) q
  | obj h1 h2 h3 => exact plain _ (.obj h1 h2 h3) q
  | ty b => exact plain _ (.ty b) q
  | cls b => exact plain _ (.cls b) q
  | bag h => exact plain _ (.bag h) q
/-! ### an own list that is looked at as a datum, for a while -/
def borD (s : Option Slot) (P : List D → Prop) (Q : Prop) : Prop := match s with
  | some (.own ds) => P ds
  | _ => Q
def mBor (i : Nat) (m : ME) : ME := fun ρ Q => borD ρ[i]? (fun ds => m (ρ.set i (.val (.lst ds))) fun d => d.nol = true ∧ Q d) (m ρ Q)
def mBorT (i : Nat) (m : MT) : MT := fun ρ Q => borD ρ[i]? (fun ds => m (ρ.set i (.val (.lst ds))) Q) (m ρ Q)
theorem Ok.back {a : Addr} {H2 : Hp} {vs : List V} (h : Ok G (B.del a) H2) (e : H2 a = some (.lst vs)) (hG : a ∉ G.c) : Ok G B H2 := ⟨fun x hx => by
  by_cases z : x = a
  · rw [z, e]; simp
  · exact h.al x ⟨hx, z⟩, fun b c eb => by
  obtain ⟨h1, h2, h3⟩ := h.bg b c eb
  exact ⟨h1.1, h2.1, h3⟩⟩
theorem evd_bor {i : Nat} {te : TE} {m : ME} (h : EvD G te m) : EvD G te (mBor i m) := by
  intro B H σ ρ hS Qd Q hQ hm
  unfold mBor borD at hm
  split at hm
  · rename_i ds e
    obtain ⟨a, vs, ea, ha, hB, hG, hd⟩ := hS.own i ds e
    refine h (B.del a) H σ _ (hS.frz e ea hG) (fun d => d.nol = true ∧ Qd d) Q (fun d v H2 q b ok hv => ?_) hm
    have e2 := b a _ hG ha
    refine hQ d v H2 q.2 b (ok.back e2 hG) (hv.keepN (fun x hx => ?_) q.1)
    by_cases z : x = a
    · exact .inr ⟨vs, by rw [z]; exact e2⟩
    · exact .inl ⟨hx, z⟩
  · exact h B H σ ρ hS Qd Q hQ hm
theorem evt_bor {i : Nat} {te : TT} {m : MT} (h : EvT G te m) : EvT G te (mBorT i m) := by
  intro B H σ ρ hS Qd Q hQ hm
  unfold mBorT borD at hm
  split at hm
  · rename_i ds e
    obtain ⟨a, vs, ea, ha, hB, hG, hd⟩ := hS.own i ds e
    refine h (B.del a) H σ _ (hS.frz e ea hG) Qd Q (fun d H2 q b ok => ?_) hm
    exact hQ d H2 q b (ok.back (b a _ hG ha) hG)
  · exact h B H σ ρ hS Qd Q hQ hm
end
end Dz

namespace Dz
open PySem PySem.Spec PyProof.Rows L2
/-! ### the instance that __init__ fills -/
def putFd (f : Str) (v : D) : List (Str × D) → List (Str × D)
  | [] => [(f, v)]
  | (g, x) :: r => if g = f then (g, v) :: r else (g, x) :: putFd f v r
def slfD (s : Option Slot) (Q : Addr → Addr → List (Str × D) → Prop) : Prop := match s with
  | some (.slf a C fs) => Q a C fs
  | _ => False
section
variable {G : Ga} {B B0 : Bs} {H H0 : Hp} {σ : L2.St} {ρ : Rho}
theorem Dfs.length : ∀ {fs : List (Str × V)} {ds : List (Str × D)}, Dfs G B H fs ds → fs.length = ds.length
  | _, _, .nil => rfl
  | _, _, .cons _ h => by rw [List.length_cons, List.length_cons, Dfs.length h]
theorem Dfs.put {f : Str} {v : V} {d : D} (hv : Dt G B H v d) : ∀ {fs : List (Str × V)} {ds : List (Str × D)}, Dfs G B H fs ds → Dfs G B H (putF f v fs) (putFd f d ds)
  | _, _, .nil => .cons hv .nil
  | (g, x) :: fs, (_, e) :: ds, h => by
    cases h with
    | cons h1 h2 =>
      unfold putF putFd
      by_cases z : g = f
      · rw [if_pos z, if_pos z]; exact .cons hv h2
      · rw [if_neg z, if_neg z]; exact .cons h1 (Dfs.put hv h2)
/-- the slot 0 holds the instance -/
theorem Sta.slf0 (h : Sta G B H σ ρ) {a C dx : Addr} {fs : List (Str × V)} {ds : List (Str × D)} (e0 : σ[0]? = some (some (.ref a))) (ha : H a = some (.ins C dx fs)) (hB : a ∈ B) (hG : a ∉ G.c) (hd : Dfs G B H fs ds) : Sta G B H σ (ρ.set 0 (.slf a C ds)) := by
  refine ⟨h.ok, by simp [h.len], fun i d e => ?_, fun i ds e => ?_, fun i j ds es a e1 e2 e3 e4 => ?_, fun b C' es e => ?_⟩
  · exact h.val i d ((set_get e).resolve_left fun z => by cases z.2.1).2
  · exact h.own i ds ((set_get e).resolve_left fun z => by cases z.2.1).2
  · exact h.inj i j ds es a ((set_get e1).resolve_left fun z => by cases z.2.1).2 ((set_get e2).resolve_left fun z => by cases z.2.1).2 e3 e4
  · rcases set_get e with ⟨_, z, _⟩ | ⟨z, _⟩
    · cases z
      exact ⟨dx, fs, e0, ha, hB, hG, hd⟩
    · exact absurd rfl z
/-- its fields are written -/
theorem Sta.putSlf (h : Sta G B H σ ρ) {a C dx : Addr} {fs fs' : List (Str × V)} {ds ds' : List (Str × D)} (e : ρ[0]? = some (.slf a C ds)) (ha : H a = some (.ins C dx fs)) (hd : Dfs G B H fs' ds') : Sta G B (upd H a (.ins C dx fs')) σ (ρ.set 0 (.slf a C ds')) := by
  obtain ⟨dx', fs0, e0, ha', hB, hG, _⟩ := h.slf a C ds e
  have k : ∀ {v d}, Dt G B H v d → Dt G B (upd H a (.ins C dx fs')) v d := fun h => h.to fun x o n q => ⟨n, by rw [upd_ne (fun z => n (by rw [z]; exact hB))]; exact q⟩
  have ks : ∀ {v d}, Dts G B H v d → Dts G B (upd H a (.ins C dx fs')) v d := fun h => h.to fun x o n q => ⟨n, by rw [upd_ne (fun z => n (by rw [z]; exact hB))]; exact q⟩
  have kf : ∀ {v d}, Dfs G B H v d → Dfs G B (upd H a (.ins C dx fs')) v d := fun h => h.to fun x o n q => ⟨n, by rw [upd_ne (fun z => n (by rw [z]; exact hB))]; exact q⟩
  refine ⟨h.ok.put hG, by simp [h.len], fun i d q => ?_, fun i es q => ?_, fun i j es us b e1 e2 e3 e4 => ?_, fun b C' es q => ?_⟩
  · obtain ⟨v, q1, q2⟩ := h.val i d ((set_get q).resolve_left fun z => by cases z.2.1).2
    exact ⟨v, q1, k q2⟩
  · obtain ⟨b, ws, q1, q2, q3, q4, q5⟩ := h.own i es ((set_get q).resolve_left fun z => by cases z.2.1).2
    have : b ≠ a := fun z => by rw [z, ha] at q2; cases q2
    exact ⟨b, ws, q1, by rw [upd_ne this]; exact q2, q3, q4, ks q5⟩
  · exact h.inj i j es us b ((set_get e1).resolve_left fun z => by cases z.2.1).2 ((set_get e2).resolve_left fun z => by cases z.2.1).2 e3 e4
  · rcases set_get q with ⟨_, z, _⟩ | ⟨z, _⟩
    · cases z
      exact ⟨dx, fs', e0, upd_same, hB, hG, kf hd⟩
    · exact absurd rfl z
/-- self.f = e, in __init__ -/
def sSlf (C : Addr) (f : Str) (m : ME) : MS := fun Z ρ => m ρ fun d => slfD ρ[0]? fun a C' fs => (C' = C ∧ fs.length < 1000) ∧ Z.nx (ρ.set 0 (.slf a C' (putFd f d fs)))
theorem evs_slf {C : Addr} {f : Str} {te : TE} {me : ME} (c : Cls G.K C) (n : NoAttr G.K C f) (h : EvD G te me) : EvS G (sFld G.K (tVar 0) te f) (sSlf C f me) := by
  intro B0 H0 B H σ ρ hS Z E Cv hm
  refine h B H σ ρ hS.sta (fun d => slfD ρ[0]? fun a C' fs => (C' = C ∧ fs.length < 1000) ∧ Z.nx (ρ.set 0 (.slf a C' (putFd f d fs)))) _ (fun d v H1 q b1 ok1 hv => ?_) hm
  obtain ⟨s1, t1⟩ := hS.step b1 ok1
  unfold slfD at q
  split at q
  · rename_i a C' fs e
    obtain ⟨⟨rfl, hl⟩, q⟩ := q
    obtain ⟨dx, gs, e0, ha, hB, hG, hd⟩ := s1.sta.slf a _ fs e
    refine ⟨.ref a, e0, a, _, dx, gs, rfl, ha, c, n, by rw [hd.length]; exact hl, ?_⟩
    obtain ⟨n0, nB0⟩ := s1.own.2 a _ fs e
    refine Cv.nx _ _ B _ q ⟨s1.sta.putSlf e ha (hd.put hv), fun x o nx z => ?_, s1.up, s1.fr, ⟨fun j es b e1 e2 => ?_, fun b C2 gs e2 => ?_⟩, s1.bg⟩ (t1.trans fun x o nx z => ⟨nx, by rw [upd_ne (fun y => nx (by rw [y]; exact hB))]; exact z⟩)
    · have : x ≠ a := ne_of_none z n0
      rw [upd_ne this]; exact s1.bx x o nx z
    · exact s1.own.1 j es b ((set_get e1).resolve_left fun z => by cases z.2.1).2 e2
    · rcases set_get e2 with ⟨_, z, _⟩ | ⟨z, _⟩
      · cases z; exact ⟨n0, nB0⟩
      · exact absurd rfl z
  · exact q.elim
end
end Dz

namespace Dz
open PySem PySem.Spec PyProof.Rows L2
/-! ### C(..) -/
def spI (K : PySem.W.Frag) (C : Addr) (n : Nat) (f : Addr → List D → (List (Str × D) → Prop) → Prop) : Sp := fun vs H Q _ => ∃ (x dx : Addr) (vs' : List V) (H1 : Hp) (b : Option (Addr × Addr)) (B : Bs) (ds : List D) (Qf : List (Str × D) → Prop),
  vs = .ref x :: vs' ∧ H1 x = none ∧ H1 dx = none ∧ dx ≠ x ∧ H = upd (upd H1 dx (.own x)) x (.ins C dx []) ∧ Ok ⟨K, b⟩ B H1 ∧ Dts ⟨K, b⟩ B H1 vs' ds ∧ ds.length = n ∧ f x ds Qf ∧
  ∀ fs H2, Qf fs → Bx (Ga.c ⟨K, b⟩) H1 H2 → Ok ⟨K, b⟩ B H2 → Dt ⟨K, b⟩ B H2 (.ref x) (.obj C fs) → Q .non H2
theorem spI_len {K : PySem.W.Frag} {C : Addr} {n : Nat} {f : Addr → List D → (List (Str × D) → Prop) → Prop} {vs : List V} {H : Hp} {Q : VK} {E : XK} (h : spI K C n f vs H Q E) : vs.length = n + 1 := by
  obtain ⟨x, dx, vs', H1, b, B, ds, Qf, rfl, _, _, _, _, _, hd, hl, _⟩ := h
  rw [List.length_cons, hd.length, hl]
/-- the body of __init__ on data -/
def runI (n : Nat) (ms : MS) (C : Addr) (a : Addr) (ds : List D) (Qf : List (Str × D) → Prop) : Prop :=
  ms { nx := fun ρ => slfD ρ[0]? fun a' C' fs => (a' = a ∧ C' = C) ∧ Qf fs, rt := fun _ => False } ((begin_ n (.cls a :: ds)).set 0 (.slf a C []))
theorem init_of {K : PySem.W.Frag} {C : Addr} {n : Nat} {f : Addr → List D → (List (Str × D) → Prop) → Prop} {N : List Str} {vs : List V} {H : Hp} {Q : VK} {E : XK} {t : TS} {ms : MS} (h : spI K C n f vs H Q E)
    (hS : ∀ b, EvS ⟨K, b⟩ t ms) (hf : ∀ a ds Qf, ds.length = n → f a ds Qf → runI N.length ms C a ds Qf) : t { nx := fun _ H' => Q .non H', rt := Q } (L2.start N vs) H := by
  obtain ⟨x, dx, vs', H1, b, B, ds, Qf, rfl, hx, hdx, ne, rfl, ok, hd, hl, q, k⟩ := h
  have hx' : upd H1 dx (.own x) x = none := by rw [upd_ne (Ne.symm ne)]; exact hx
  have k1 : Bx .no H1 (upd H1 dx (.own x)) := Bx.new hdx
  have k2 : Bx .no (upd H1 dx (.own x)) (upd (upd H1 dx (.own x)) x (.ins C dx [])) := Bx.new hx'
  have ok1 := ok.ex k1
  have okX : Ok ⟨K, b⟩ (.cons x B) (upd (upd H1 dx (.own x)) x (.ins C dx [])) := ok1.more hx'
  have hdX := (hd.bx (k1.nil (C := B))).more (o := .ins C dx []) hx'
  have base : Sta ⟨K, b⟩ (.cons x B) (upd (upd H1 dx (.own x)) x (.ins C dx [])) (L2.start N (.ref x :: vs')) (begin_ N.length (.cls x :: ds)) := begin_sta okX (.cons (.cls x) hdX)
  have nB : x ∉ B := ok.fresh hx
  have nc : x ∉ (⟨K, b⟩ : Ga).c := fun z => nB (ok.sub x z)
  have st := base.slf0 (a := x) (C := C) (dx := dx) (fs := []) (ds := []) rfl upd_same Bs.mem_self nc .nil
  refine hS b B H1 (.cons x B) _ _ _ ⟨st, (k1.trans k2).nil, fun a z => .inr z, fun a z => ?_, ⟨fun i es a e _ => absurd ((set_get e).resolve_left fun z => by cases z.2.1).2 (begin_noOwn _ _ i es), fun a C' es e => ?_⟩, ok.sub⟩
    { nx := fun ρ => slfD ρ[0]? fun a' C' fs => (a' = x ∧ C' = C) ∧ Qf fs, rt := fun _ => False } _ ⟨fun ρ σ B' H' z hS' _ => ?_, fun d v H' z _ _ _ => z.elim, fun _ _ _ _ z _ _ => z, fun _ _ _ _ z _ _ => z⟩ (hf x ds Qf hl q)
  · rcases z with rfl | z
    · exact .inr hx
    · exact .inl z
  · rcases set_get e with ⟨_, z, _⟩ | ⟨z, _⟩
    · cases z; exact ⟨hx, nB⟩
    · exact absurd rfl z
  · have z : slfD ρ[0]? fun a' C' fs => (a' = x ∧ C' = C) ∧ Qf fs := z
    unfold slfD at z
    split at z
    · rename_i a' C' fs e
      obtain ⟨⟨rfl, rfl⟩, z2⟩ := z
      obtain ⟨dx', gs, e0, ha, hB, hG, hdf⟩ := hS'.sta.slf _ _ fs e
      exact k fs H' z2 hS'.bx (ok_less hS'.sta.ok hS'.up hS'.bg) (.obj ha nB (hdf.less hS'.up))
    · exact z.elim
def mMake (C : Addr) (n : Nat) (f : Addr → List D → (List (Str × D) → Prop) → Prop) (es : List D) (mA : MA) : ME := fun ρ Q => mA ρ fun ds => (ds ++ es).length = n ∧ ∀ a, f a (ds ++ es) fun fs => Q (.obj C fs)
theorem evd_make {G : Ga} {C : Addr} {n : Nat} {f : Addr → List D → (List (Str × D) → Prop) → Prop} {dvs : List V} {es : List D} {E : XK} {tA : TA} {mA : MA} (hdv : ∀ B H, Dts G B H dvs es) (ha : EvA G tA mA) :
    EvD G (tMake C (spI G.K C n f) dvs E tA) (mMake C n f es mA) := by
  intro B H σ ρ hS Qd Q hQ hm
  refine ha B H σ ρ hS (fun ds => (ds ++ es).length = n ∧ ∀ a, f a (ds ++ es) fun fs => Qd (.obj C fs)) _ (fun ds vs H1 q b1 ok1 hd => ?_) hm
  intro x dx hx hdx ne
  exact ⟨x, dx, vs ++ dvs, H1, G.b, B, ds ++ es, fun fs => Qd (.obj C fs), rfl, hx, hdx, ne, rfl, ok1, hd.append (hdv B H1), q.1, q.2 x, fun fs H2 q b2 ok2 ho => ⟨rfl, hQ _ _ H2 q (b1.trans b2) ok2 ho⟩⟩
/-! ### self.f inside __init__ -/
def mSlf (C : Addr) (f : Str) : ME := fun ρ Q => slfD ρ[0]? fun _ C' fs => C' = C ∧ someD (fs.lookup f) Q
theorem evd_slf {G : Ga} {C : Addr} {f : Str} (c : Cls G.K C) (n : NoAttr G.K C f) : EvD G (tFld G.K (tVar 0) f) (mSlf C f) := by
  intro B H σ ρ hS Qd Q hQ hm
  unfold mSlf slfD at hm
  split at hm
  · rename_i a C' fs e
    obtain ⟨rfl, q⟩ := hm
    obtain ⟨d, ed, q⟩ := someD_inv q
    obtain ⟨dx, gs, e0, ha, hB, hG, hd⟩ := hS.slf a _ fs e
    obtain ⟨v, e1, e2⟩ := dfs_lookup hd ed
    exact ⟨.ref a, e0, a, _, dx, gs, v, rfl, ha, c, n, e1, hQ d v H q (Bx.refl _ _) hS.ok e2⟩
  · exact hm.elim
/-! ### o.f, a property -/
def isC (C : Addr) (d : D) (Q : Prop) : Prop := match d with
  | .obj C' _ => C' = C ∧ Q
  | _ => False
def mProp (C : Addr) (f : List D → MD) (mo : ME) : ME := fun ρ Q => mo ρ fun o => isC C o (f [o] Q)
theorem evd_prop {G : Ga} {C : Addr} {f : List D → MD} {E : XK} {to : TE} {mo : ME} (ho : EvD G to mo) : EvD G (tProp C (spM G.K 1 f) [] E to) (mProp C f mo) := by
  intro B H σ ρ hS Qd Q hQ hm
  refine ho B H σ ρ hS (fun o => isC C o (f [o] Qd)) _ (fun o v H1 q b1 ok1 hv => ?_) hm
  cases hv with
  | obj h1 n1 s1 =>
    obtain ⟨rfl, q⟩ := q
    exact ⟨_, _, _, rfl, h1, G.b, B, _, Qd, ok1, .cons (.obj h1 n1 s1) .nil, rfl, q, fun d v H2 q b2 ok2 hd => hQ d v H2 q (b1.trans b2) ok2 hd⟩
  | _ => exact (show False from q).elim
/-! ### own classes: what they are -/
structure OwnC (K : PySem.W.Frag) (C : Addr) : Prop where
  cl : Cls K C
  ha : PySem.W.findIn K (.ref C) "__class__" = some (some (.builtin "object.__class__"))
  hn : PySem.W.specialIn K (.builtin "object.__class__") "__get__" = some (some (.builtin "getset_descriptor.__get__"))
  tk : PySem.W.takesIn K (.builtin "object.__class__") = some true
  hm : PySem.W.mroIn K C (.type "object") = some true
/-- a datum's type, where it is told -/
def tyC (d : D) : Option (String ⊕ Addr) := match d with
  | .obj C _ => some (.inr C)
  | d => (tyN d).map Sum.inl
def tyU : String ⊕ Addr → Value
  | .inl n => .type n
  | .inr C => .ref C
theorem tyC_of {G : Ga} {B : Bs} {H : Hp} {v : V} {d : D} {t : String ⊕ Addr} (h : Dt G B H v d) (e : tyC d = some t) (hC : ∀ C, t = .inr C → OwnC G.K C) : TyX G.K H v (tyU t) := by
  have h' := h
  have plain : (tyN d).map Sum.inl = some t → TyX G.K H v (tyU t) := fun e => by
    simp only [Option.map_eq_some_iff] at e
    obtain ⟨n, e1, rfl⟩ := e
    exact tyX_of h' e1
  cases h with
  | obj h1 n1 s1 =>
    cases e
    obtain ⟨cl, ha, hn, tk, hm⟩ := hC _ rfl
    exact .base (.ins h1 cl ha hn tk hm)
  | _ => exact plain e
/-! ### isinstance(x, C) -/
def isiC (C : Addr) (ds : List D) (Q : D → Prop) : Prop := match ds with
  | [d, .cls C'] => C' = C ∧ someD (tyC d) fun t => match t with
    | .inl _ => Q (.bl false)
    | .inr C' => C' = C ∧ Q (.bl true)
  | ds => isiF ds Q
/-- what K says of a class and the built-in types -/
structure IsOf (K : PySem.W.Frag) (C : Addr) : Prop where
  own : OwnC K C
  no : ∀ d t, tyC d = some (.inl t) → PySem.W.kitOne K (.type t) (.ref C) = some false
  nf : ∀ d t, tyC d = some (.inl t) → PySem.W.notFirst K C (.type t) = true
theorem calld_isiC {G : Ga} {C : Addr} (c : IsOf G.K C) : CallD G (rIsi G.K) (isiC C) := by
  intro B H x dx ok hx Qd Q hQ hm
  unfold isiC at hm
  split at hm
  · obtain ⟨v, w, rfl, hv, hw⟩ := hx.two
    obtain ⟨rfl, hm⟩ := hm
    obtain ⟨t, e, q⟩ := someD_inv hm
    cases hw
    cases t with
    | inl n => exact ⟨v, _, _, _, false, rfl, .own _, tyC_of hv e (fun _ z => by cases z), c.no _ _ e, hQ _ _ H q (Bx.refl _ _) (.bl _)⟩
    | inr C' =>
      obtain ⟨rfl, q⟩ := q
      exact ⟨v, _, _, _, true, rfl, .own _, tyC_of hv e (fun _ z => by cases z; exact c.own), by unfold PySem.W.kitOne; rw [if_pos (by simp [tyU])], hQ _ _ H q (Bx.refl _ _) (.bl _)⟩
  · exact calld_isi B H x dx ok hx Qd Q hQ hm
/-! ### == and != by an own __eq__ -/
/-- what stands on the right is looked at later -/
def RightOk (K : PySem.W.Frag) (C : Addr) (y : V) (H : Hp) : Prop := ∃ t, TyX K H y t ∧ PySem.W.notFirst K C t = true
def rOwnEq (K : PySem.W.Frag) (C : Addr) (neg : Bool) (sp : Sp) (E : XK) : R2 := fun x y H Q => ∃ a dx fs, x = .ref a ∧ H a = some (.ins C dx fs) ∧ RightOk K C y H ∧ sp [x, y] H (fun v H' => ∃ b, v = .bl b ∧ Q (.bl (if neg then !b else b)) H') E
section
variable {X : Cx} {CX : CXT} {k : Nat} {C f : Addr} {fd : FuncData} {ps : List Str} {sp : Sp} {E : XK}
theorem op_eqOwn (F : FnOk X.prog X.w X.K X.mg X.base CX k f fd ps sp) (hr : Room k X.A) (hs : PySem.W.findIn X.K (.ref C) "__eq__" = some (some (.ref f))) (hf : PySem.W.isFn X.K (.ref f) = true) (hb : Binds X.K fd ps []) (hx : Passes CX X E) : OpR X (compareOp .Eq) (rOwnEq X.K C false sp E) := by
  intro pins s σ H x y v u Q I rx ry hq
  obtain ⟨a, dx, fs, rfl, ha, ⟨t, ty, nf⟩, hsp⟩ := hq
  cases rx
  obtain ⟨mA, J, _⟩ := ins_get I.hok ha
  obtain ⟨od, J, _⟩ := J.look
  obtain ⟨P, Z, p, _⟩ := kit_of I ry ty
  obtain ⟨m, hF⟩ := I.fr
  show wpAny (model X.prog X.w) X.A (richCompare .Eq (.ref a) u) (EP X pins σ Q) X.xe s
  refine PySem.W.cmp_K (op := .Eq) (tb := t) hr.units0 hF I.ok.mod.kin J (Z.ty _ _ I.kIn p) nf hs hf ?_
  have r2 : Vals [V.ref a, y] [Value.ref a, u] := .cons rfl (.cons ry .nil)
  have hl := F.len _ _ _ _ hsp
  refine wpAny_call (codeAny_mono (F.run X.A X.stack s H ⟨[.ref a, u], []⟩ [.ref a, u] [.ref a, y] _ E hr I.env0 (by
    have := hb s [.ref a, u] I.kIn (by simpa using hl)
    simpa using this) r2 hsp) fun r s' hq => ?_)
  cases r with
  | error e => exact hx pins σ H s e s' I hq
  | ok fl =>
    cases fl with
    | ret w =>
      obtain ⟨z, H', I', rz, b, rfl, q⟩ := I.after hq
      cases rz
      exact ⟨.bl b, H', I', rfl, q⟩
    | next => exact False.elim hq
    | brk => exact False.elim hq
    | cont => exact False.elim hq
theorem cmpNe_K {prog : Program} {w : World} {A : Around} {E : Value → Shared → Prop} {s : Shared} {K : PySem.W.Frag} {x C L f : Addr} {h₀ : Heap} {m : Str → Option Value} {ox : Obj} {od : Option Obj} {yv ty : Value} {Q : Value → Shared → Prop}
    (hu : A.units + 1 < cLine) (F : Fr h₀ L s.heap m) (X₀ : K.In h₀) (I : PySem.W.InstAt s.heap x ox C od) (ly : PySem.W.Looks (model prog w) s.heap (typeOf yv) ty) (hn : PySem.W.notFirst K C ty = true) (hm : PySem.W.makesIn K C = true)
    (hne : PySem.W.findIn K (.ref C) "__ne__" = some (some (.builtin "object.__ne__"))) (hs : PySem.W.findIn K (.ref C) "__eq__" = some (some (.ref f))) (hf : PySem.W.isFn K (.ref f) = true)
    (h : wpAny (model prog w) A.in1 (call (.ref f) [.ref x, yv]) (fun v s' => ∃ r, v = .bool r ∧ Q (.bool (!r)) s') E s) : wpAny (model prog w) A (richCompare .NotEq (.ref x) yv) Q E s := by
  have Xh := X₀.keeps F.keep
  have slotNe := PySem.F.cmp_object.ne
  have inner : ∀ Qf : Fin → Shared → Prop, (∀ r s', Q (.bool r) s' → Qf (.done (.ret (.bool r))) s') → wpAny (model prog w) A.in1 (Builtin.«object.__ne__» ⟨[.ref x, yv], []⟩) Qf E s := fun Qf hQf => by
    unfold Builtin.«object.__ne__»
    repeat (first
      | with_reducible refine wpAny_cRoomFor (A := A.in1) (by show A.units + 1 < cLine; exact hu) ?_
      | (refine wpAny_bind (m := callSpecialIfBound? (.ref x) (Str.ofString "__eq__") [yv]) (PySem.W.ifBound_K Xh I hs hf (wpAny_mono h (fun told s2 was => ?_) fun _ _ er => er))
         obtain ⟨r, rfl, was⟩ := was
         have was := hQf _ _ was
         repeat (first | exact was | exact wpAny_pure was | exact wpAny_truthy_bool was | (refine wpAny_bind (m := truthy (.bool _)) (wpAny_truthy_bool ?_)) | wp_step))
      | wp_step)
  have isI : PySem.W.Looks (model prog w) s.heap (isInstance (.ref x) (.type "object")) true := I.type.andThen (PySem.W.makes_of (M := model prog w) Xh hm).top
  have notN : wpAny (model prog w) A (call (.builtin "object.__ne__") [.ref x, yv]) (PySem.W.CmpBack Q) E s :=
    wpAny_call (codeAny_call_builtin slotNe.plain PySem.F.cmpEntry_ne (PySem.W.check_slot PySem.F.cmpKind_ne PySem.F.cmpSplit_ne isI (PySem.F.cmpArgs_ne _ _) (inner _ fun r s' q => q)))
  have tried : wpAny (model prog w) A (tryCompare (.ref x) "__ne__" yv) (fun r s' => ∃ v, r = some v ∧ Q v s') E s := by
    unfold tryCompare
    refine wpAny_bind ?_
    have fin : ∀ Q2 : Option Value → Shared → Prop, (∀ v s', PySem.W.CmpBack Q v s' → Q2 (some v) s') → wpAny (model prog w) A (call (.builtin "object.__ne__") ([.ref x] ++ [yv]) >>= fun v => pure (some v)) Q2 E s := fun Q2 h2 =>
      wpAny_bind (wpAny_mono notN (fun told s2 was => wpAny_pure (h2 told s2 was)) fun _ _ er => er)
    simp only [callSpecialIfBound?, bindSpecialIfBound?]
    refine wpAny_holding (wpAny_bind (wpAny_bind (wpAny_bind (I.type.here ((PySem.W.looks_findIn Xh hne).here ?_)))))
    simp only [slotNe.bind]
    refine wpAny_bind (wpAny_askSetting (wpAny_ite ?_))
    split
    · exact wpAny_bind (wpAny_pure (wpAny_pure (fin _ (fun v s' h => by cases v <;> first | exact h.elim | exact wpAny_pure ⟨_, rfl, h⟩))))
    · exact wpAny_tryCatch (wpAny_bind (wpAny_pure (wpAny_pure (fin _ (fun v s' h => by cases v <;> first | exact h.elim | exact wpAny_pure ⟨_, rfl, h⟩)))))
  have end_ : wpAny (model prog w) A (tryCompare (.ref x) "__ne__" yv) (fun r s' => wpAny (model prog w) A (pure (r.getD .none)) Q E s' ∧ r.isSome = true) E s :=
    wpAny_mono tried (fun r s' ⟨v, e, q⟩ => by subst e; exact ⟨wpAny_pure q, rfl⟩) fun _ _ er => er
  unfold richCompare
  simp only [oneThing_ref]
  refine wpAny_holding (wpAny_bind (wpAny_cRoomFor (by omega) ?_))
  rw [cmpInfo_NotEq]
  dsimp only
  refine wpAny_bind (I.type.here (wpAny_bind (ly.here ?_)))
  split
  · rename_i differ
    have below : PySem.W.subIn K ty (.ref C) = some false := by
      rcases Bool.or_eq_true_iff.mp hn with same | apart
      · rw [beq_iff_eq.mp same] at differ; simp at differ
      · exact beq_iff_eq.mp apart
    refine wpAny_bind ((PySem.W.looks_subIn Xh below).here ?_)
    simp only [Bool.false_eq_true, if_false]
    refine wpAny_bind (wpAny_mono end_ (fun r s' ⟨told, some_⟩ => ?_) fun _ _ er => er)
    cases r with
    | none => cases some_
    | some v => exact told
  · refine wpAny_bind (wpAny_pure ?_)
    simp only [Bool.false_eq_true, if_false]
    refine wpAny_bind (wpAny_mono end_ (fun r s' ⟨told, some_⟩ => ?_) fun _ _ er => er)
    cases r with
    | none => cases some_
    | some v => exact told
theorem op_neOwn (M : PySem.W.makesIn X.K C = true) (hne : PySem.W.findIn X.K (.ref C) "__ne__" = some (some (.builtin "object.__ne__"))) (F : FnOk X.prog X.w X.K X.mg X.base CX k f fd ps sp) (hr : Room (k + 1) X.A) (hs : PySem.W.findIn X.K (.ref C) "__eq__" = some (some (.ref f))) (hf : PySem.W.isFn X.K (.ref f) = true) (hb : Binds X.K fd ps []) (hx : Passes CX X E) :
    OpR X (compareOp .NotEq) (rOwnEq X.K C true sp E) := by
  intro pins s σ H x y v u Q I rx ry hq
  obtain ⟨a, dx, fs, rfl, ha, ⟨t, ty, nf⟩, hsp⟩ := hq
  cases rx
  obtain ⟨mA, J, _⟩ := ins_get I.hok ha
  obtain ⟨od, J, _⟩ := J.look
  obtain ⟨P, Z, p, _⟩ := kit_of I ry ty
  obtain ⟨m, hF⟩ := I.fr
  show wpAny (model X.prog X.w) X.A (richCompare .NotEq (.ref a) u) (EP X pins σ Q) X.xe s
  have hu : X.A.units + 1 < cLine := by have := hr.un; omega
  refine cmpNe_K hu hF I.ok.mod.kin J (Z.ty _ _ I.kIn p) nf M hne hs hf ?_
  have r2 : Vals [V.ref a, y] [Value.ref a, u] := .cons rfl (.cons ry .nil)
  have hl := F.len _ _ _ _ hsp
  have e0 : Env0 X.prog X.w X.K X.mg X.base X.A.in1 X.stack s H := I.env0.in1
  refine wpAny_call (codeAny_mono (F.run X.A.in1 X.stack s H ⟨[.ref a, u], []⟩ [.ref a, u] [.ref a, y] _ E hr.in1 e0 (by
    have := hb s [.ref a, u] I.kIn (by simpa using hl)
    simpa using this) r2 hsp) fun r s' hq => ?_)
  cases r with
  | error e => exact hx pins σ H s e s' I hq
  | ok fl =>
    cases fl with
    | ret w =>
      obtain ⟨z, H', I', rz, b, rfl, q⟩ := I.after hq
      cases rz
      exact ⟨b, rfl, .bl (!b), H', I', rfl, q⟩
    | next => exact False.elim hq
    | brk => exact False.elim hq
    | cont => exact False.elim hq
end
/-- x == y, x != y, with an instance of C on the left -/
def mEqOwn (C : Addr) (neg : Bool) (f : List D → MD) (ma mb : ME) : ME := fun ρ Q => ma ρ fun x => mb ρ fun y => isC C x (someD (tyC y) fun t => (match t with
  | .inl _ => True
  | .inr C' => C' = C) ∧ f [x, y] fun d => asBl d fun b => Q (.bl (if neg then !b else b)))
theorem evd_eqOwn {G : Ga} {C : Addr} {neg : Bool} {f : List D → MD} {E : XK} {ta tb : TE} {ma mb : ME} (c : IsOf G.K C) (ha : EvD G ta ma) (hb : EvD G tb mb) : EvD G (tOp (rOwnEq G.K C neg (spM G.K 2 f) E) ta tb) (mEqOwn C neg f ma mb) := by
  intro B H σ ρ hS Qd Q hQ hm
  refine ha B H σ ρ hS (fun x => mb ρ fun y => isC C x (someD (tyC y) fun t => (match t with
    | .inl _ => True
    | .inr C' => C' = C) ∧ f [x, y] fun d => asBl d fun b => Qd (.bl (if neg then !b else b)))) _ (fun dx x H1 q b1 ok1 hx => ?_) hm
  refine hb B H1 σ ρ (hS.bx b1 ok1) (fun y => isC C dx (someD (tyC y) fun t => (match t with
    | .inl _ => True
    | .inr C' => C' = C) ∧ f [dx, y] fun d => asBl d fun b => Qd (.bl (if neg then !b else b)))) _ (fun dy y H2 q b2 ok2 hy => ?_) q
  have hx2 := hx.bx (b2.sub ok1.sub)
  cases hx with
  | obj h1 n1 s1 =>
    obtain ⟨rfl, q⟩ := q
    obtain ⟨t, et, ht, q⟩ := someD_inv q
    have h2 := b2 _ _ (fun z => n1 (ok1.sub _ z)) h1
    refine ⟨_, _, _, rfl, h2, ⟨tyU t, tyC_of hy et (fun C' z => by subst z; have : C' = _ := ht; subst this; exact c.own), ?_⟩, G.b, B, _, _, ok2, .cons hx2 (.cons hy .nil), rfl, q, fun d v H3 q3 b3 ok3 hd => ?_⟩
    · cases t with
      | inl n => exact c.nf dy n et
      | inr C' => have : C' = _ := ht; subst this; simp [tyU, PySem.W.notFirst]
    · obtain ⟨b, rfl, rfl, q3⟩ := asBl_inv hd q3
      exact ⟨b, rfl, hQ _ _ H3 q3 ((b1.trans b2).trans b3) ok3 (.bl _)⟩
  | _ => exact (show False from q).elim
end Dz

namespace Dz
open PySem PySem.Spec PyProof.Rows L2
/-! ### operators of an own class -/
def rOwn1 (C : Addr) (sp : Sp) (E : XK) : V → Hp → VK → Prop := fun x H Q => ∃ a dx fs, x = .ref a ∧ H a = some (.ins C dx fs) ∧ sp [x] H Q E
def rOwnIn (C : Addr) (sp : Sp) (E : XK) : R2 := fun x y H Q => ∃ a dx fs, y = .ref a ∧ H a = some (.ins C dx fs) ∧ sp [y, x] H (fun v H' => ∃ b, v = .bl b ∧ Q v H') E
def rOwn2 (C : Addr) (sp : Sp) (E : XK) : R2 := fun x y H Q => ∃ a dx fs b dy gs, x = .ref a ∧ H a = some (.ins C dx fs) ∧ y = .ref b ∧ H b = some (.ins C dy gs) ∧ sp [x, y] H (fun v H' => ((∃ p, v = .ref p) ∨ ∃ k, v = .bl k) ∧ Q v H') E
section
variable {X : Cx} {CX : CXT} {k : Nat} {C f : Addr} {fd : FuncData} {ps : List Str} {sp : Sp} {E : XK}
theorem un_invOwn (F : FnOk X.prog X.w X.K X.mg X.base CX k f fd ps sp) (hr : Room k X.A) (hs : PySem.W.findIn X.K (.ref C) "__invert__" = some (some (.ref f))) (hf : PySem.W.isFn X.K (.ref f) = true) (hb : Binds X.K fd ps []) (hx : Passes CX X E) : UnR X (unaryOp .Invert) (rOwn1 C sp E) := by
  intro pins s σ H x v Q I rx hq
  obtain ⟨a, dx, fs, rfl, ha, hsp⟩ := hq
  cases rx
  obtain ⟨mA, J, _⟩ := ins_get I.hok ha
  obtain ⟨od, J, _⟩ := J.look
  unfold unaryOp
  refine wpAny_holding ?_
  refine wpAny_bind (m := callSpecial? (.ref a) (Str.ofString "__invert__")) (PySem.W.special_fn I.kIn J hs (beq_iff_eq.mp hf) (wpAny_mono (run_fn F hr hb .nil hx I (vs := [.ref a]) (.cons rfl .nil) hsp) (fun r s2 told => ?_) fun _ _ er => er))
  exact wpAny_pure told
theorem op_inOwn (F : FnOk X.prog X.w X.K X.mg X.base CX k f fd ps sp) (hr : Room k X.A) (hs : PySem.W.findIn X.K (.ref C) "__contains__" = some (some (.ref f))) (hf : PySem.W.isFn X.K (.ref f) = true) (hb : Binds X.K fd ps []) (hx : Passes CX X E) : OpR X (compareOp .In) (rOwnIn C sp E) := by
  intro pins s σ H x y v u Q I rx ry hq
  obtain ⟨a, dx, fs, rfl, ha, hsp⟩ := hq
  cases ry
  obtain ⟨mA, J, _⟩ := ins_get I.hok ha
  obtain ⟨od, J, _⟩ := J.look
  obtain ⟨m, hF⟩ := I.fr
  refine PySem.W.in_K hF I.ok.mod.kin J hs hf (wpAny_mono (run_fn F hr hb .nil hx I (vs := [.ref a, x]) (.cons rfl (.cons rx .nil)) hsp) (fun r s2 told => ?_) fun _ _ er => er)
  obtain ⟨z, H', I', rz, b, rfl, q⟩ := told
  cases rz
  exact wpAny_truthy_bool ⟨.bl b, H', I', rfl, q⟩
theorem op_binOwn {op : Operator} (hc : PySem.W.selfFirst X.K C = true) (F : FnOk X.prog X.w X.K X.mg X.base CX k f fd ps sp) (hr : Room k X.A) (hs : PySem.W.findIn X.K (.ref C) (PySem.dunder op.info.2) = some (some (.ref f))) (hf : PySem.W.isFn X.K (.ref f) = true) (hb : Binds X.K fd ps []) (hx : Passes CX X E) : OpR X (binaryOp op) (rOwn2 C sp E) := by
  intro pins s σ H x y v u Q I rx ry hq
  obtain ⟨a, dx, fs, b, dy, gs, rfl, ha, rfl, hb', hsp⟩ := hq
  cases rx
  cases ry
  obtain ⟨mA, J, _⟩ := ins_get I.hok ha
  obtain ⟨od, J, _⟩ := J.look
  obtain ⟨mB, J', _⟩ := ins_get I.hok hb'
  obtain ⟨od', J', _⟩ := J'.look
  obtain ⟨m, hF⟩ := I.fr
  refine PySem.W.binop_K hF I.ok.mod.kin J J'.type hc hs hf (wpAny_mono (run_fn F hr hb .nil hx I (vs := [.ref a, .ref b]) (.cons rfl (.cons rfl .nil)) hsp) (fun r s2 told => ?_) fun _ _ er => er)
  obtain ⟨z, H', I', rz, hz, q⟩ := told
  rcases hz with ⟨p, rfl⟩ | ⟨p, rfl⟩
  · cases rz
    exact ⟨.ref p, H', I', rfl, q⟩
  · cases rz
    exact ⟨.bl p, H', I', rfl, q⟩
end
section
variable {G : Ga} {C : Addr} {f : List D → MD} {E : XK} {ta tb : TE} {ma mb : ME}
def mOwn1 (C : Addr) (f : List D → MD) (ma : ME) : ME := fun ρ Q => ma ρ fun x => isC C x (f [x] Q)
theorem evd_own1 (ha : EvD G ta ma) : EvD G (tUn (rOwn1 C (spM G.K 1 f) E) ta) (mOwn1 C f ma) := by
  intro B H σ ρ hS Qd Q hQ hm
  refine ha B H σ ρ hS (fun x => isC C x (f [x] Qd)) _ (fun o v H1 q b1 ok1 hv => ?_) hm
  cases hv with
  | obj h1 n1 s1 =>
    obtain ⟨rfl, q⟩ := q
    exact ⟨_, _, _, rfl, h1, G.b, B, _, Qd, ok1, .cons (.obj h1 n1 s1) .nil, rfl, q, fun d v H2 q b2 ok2 hd => hQ d v H2 q (b1.trans b2) ok2 hd⟩
  | _ => exact (show False from q).elim
def mOwnIn (C : Addr) (f : List D → MD) (ma mb : ME) : ME := fun ρ Q => ma ρ fun x => mb ρ fun y => isC C y (f [y, x] fun d => asBl d fun b => Q (.bl b))
theorem evd_ownIn (ha : EvD G ta ma) (hb : EvD G tb mb) : EvD G (tOp (rOwnIn C (spM G.K 2 f) E) ta tb) (mOwnIn C f ma mb) := by
  intro B H σ ρ hS Qd Q hQ hm
  refine ha B H σ ρ hS (fun x => mb ρ fun y => isC C y (f [y, x] fun d => asBl d fun b => Qd (.bl b))) _ (fun dx x H1 q b1 ok1 hx => ?_) hm
  refine hb B H1 σ ρ (hS.bx b1 ok1) (fun y => isC C y (f [y, dx] fun d => asBl d fun b => Qd (.bl b))) _ (fun dy y H2 q b2 ok2 hy => ?_) q
  have hx2 := hx.bx (b2.sub ok1.sub)
  cases hy with
  | obj h1 n1 s1 =>
    obtain ⟨rfl, q2⟩ := q
    refine ⟨_, _, _, rfl, h1, G.b, B, _, _, ok2, .cons (.obj h1 n1 s1) (.cons hx2 .nil), rfl, q2, fun d v H3 q3 b3 ok3 hd => ?_⟩
    obtain ⟨b, rfl, rfl, q3⟩ := asBl_inv hd q3
    exact ⟨b, rfl, hQ _ _ H3 q3 ((b1.trans b2).trans b3) ok3 (.bl b)⟩
  | _ => exact (show False from q).elim
def isO (d : D) (Q : Prop) : Prop := match d with
  | .obj _ _ => Q
  | _ => False
def mOwn2 (C : Addr) (f : List D → MD) (ma mb : ME) : ME := fun ρ Q => ma ρ fun x => mb ρ fun y => isC C x (isC C y (f [x, y] fun d => isO d (Q d)))
theorem evd_own2 (ha : EvD G ta ma) (hb : EvD G tb mb) : EvD G (tOp (rOwn2 C (spM G.K 2 f) E) ta tb) (mOwn2 C f ma mb) := by
  intro B H σ ρ hS Qd Q hQ hm
  refine ha B H σ ρ hS (fun x => mb ρ fun y => isC C x (isC C y (f [x, y] fun d => isO d (Qd d)))) _ (fun dx x H1 q b1 ok1 hx => ?_) hm
  refine hb B H1 σ ρ (hS.bx b1 ok1) (fun y => isC C dx (isC C y (f [dx, y] fun d => isO d (Qd d)))) _ (fun dy y H2 q b2 ok2 hy => ?_) q
  have hx2 := hx.bx (b2.sub ok1.sub)
  cases hx with
  | obj h1 n1 s1 =>
    obtain ⟨rfl, q⟩ := q
    have h2 := b2 _ _ (fun z => n1 (ok1.sub _ z)) h1
    cases hy with
    | obj g1 m1 r1 =>
      obtain ⟨rfl, q⟩ := q
      refine ⟨_, _, _, _, _, _, rfl, h2, rfl, g1, G.b, B, _, _, ok2, .cons hx2 (.cons (.obj g1 m1 r1) .nil), rfl, q, fun d v H3 q3 b3 ok3 hd => ?_⟩
      cases hd with
      | obj k1 l1 t1 => exact ⟨.inl ⟨_, rfl⟩, hQ _ _ H3 q3 ((b1.trans b2).trans b3) ok3 (.obj k1 l1 t1)⟩
      | _ => exact (show False from q3).elim
    | _ => exact (show False from q).elim
  | _ => exact (show False from q).elim
end
end Dz

namespace L2
open PySem PySem.Spec PyProof.Rows
/-! ### set(xs) of a list of integers -/
abbrev bare_ (w : World) : Obj := { cls := .type "set", dict := none, data := .set #[] 0 (.fresh 0 0 (!w.params.followText "set-order")) }
section
variable {P : Program} {w : World} {A : Around} {E : Value → Shared → Prop} {s : Shared}
/-- what is wanted of the set that was made -/
def MadeOf (w : World) (s : Shared) (ns : List Int) (h' : Heap) (c : Nat) : Prop := SetR w h' s.heap.objs.size (fun j => decide (j ∈ ns)) c ∧ c ≤ ns.length ∧ ∀ b o, s.heap.get? b = some o → h'.get? b = some o
set_option maxHeartbeats 3200000 in
theorem setOfList {l : Addr} {its : Array Value} (ns : List Int) {Q : Value → Shared → Prop} (quiet : A.handled = none) (isl : s.heap.IsList l its) (hIts : IntsAre its.toList ns) (few : ns.length + 1 < scanBound)
    (then_ : ∀ (h' : Heap) (tk c : Nat), MadeOf w s ns h' c → Q (.ref s.heap.objs.size) { s with heap := h', toks := tk }) : wpAny (model P w) A (call (.type "set") [.ref l]) Q E s := by
  have many : its.size = ns.length := by
    have e := IntsAre.length hIts
    rwa [Array.length_toList] at e
  obtain ⟨_, _, mro_⟩ := F.called_set.mro
  have made_ := F.called_set.made
  have sub_ := F.called_set.sub
  refine wpAny_call (codeAny_of_tree ?_)
  change wpAny _ _ (callAny (.type "set") _) _ _ _
  refine wpAny_pure ⟨Code.quiet_builtin _ (by decide +kernel), codeAny_builtin F.entry_type_call ?_⟩
  rw [Around.under_plain (weight_type_call_type "set" [.ref l] []) rfl]
  have no_ := F.called_set.notType
  have can_ := F.called_set.canCreate
  have chk_ := F.typeCall_set_1 (.ref l)
  repeat (any_goals (first | assumption | wp_step))
  let H1 : Heap := s.heap.push (bare_ w)
  refine codeAny_mono (code_set_led1 (.ref l) (E := E) (Q₁ := fun obj s₁ => obj = .ref s.heap.objs.size ∧ s₁ = { s with heap := s.heap.push (bare_ w) }) ⟨rfl, rfl⟩) fun res s1 got => ?_
  cases res with
  | error e => exact got
  | ok fl =>
    cases fl with
    | ret obj =>
      obtain ⟨rfl, rfl⟩ := got
      have at1 : (s.heap.push (bare_ w)).get? s.heap.objs.size = some (bare_ w) := Heap.get?_push_size _ rfl
      have ty1 : Shared.TypeIs { s with heap := s.heap.push (bare_ w) } (.ref s.heap.objs.size) "set" := ⟨_, at1, rfl⟩
      have look_ := F.called_set.init.lookup
      have bind_ := F.called_set.init.bind (.ref s.heap.objs.size)
      repeat (any_goals (first | assumption | wp_step))
      refine codeAny_mono (codeAny_call_builtin (R := wants (fun r s2 => r = .none ∧ ∃ h' tk c, s2 = { s with heap := h', toks := tk } ∧ MadeOf w s ns h' c) E) F.called_set.init.plain F.entry_set_init (check_set_init_1 ty1 ?_)) fun res2 s2 got2 => ?_
      · obtain ⟨ol, hol, cl_, nl, dl_⟩ := isl
        obtain ⟨k1, k2, k3, k4⟩ := ol
        simp only at cl_ dl_
        subst cl_; subst dl_
        have at2 : (s.heap.push (bare_ w)).get? l = some { cls := .type "list", dict := k2, data := .seq its nl, slots := k4 } := Heap.get?_push_of_some _ hol
        have sub1 := F.sub_list_set
        have sub2 := F.sub_list_frozenset
        have nd : (Value.type "list" == Value.type "dict") = false := by decide
        have lst1 : (s.heap.push (bare_ w)).IsList l its := ⟨_, at2, rfl, nl, rfl⟩
        unfold Builtin.«set.__init__» noKeywords Builtin.Frozenset.updateFrom
        generalize iter_ : pyIter = IT
        wp_walk
        subst iter_
        refine wpAny_pyIter_list lst1 ?_
        refine wpAny_bind (wpAny_runValue ?_)
        have below : l < s.heap.objs.size := Heap.lt_size hol
        have quiet3 : A.in1.in1.in1.handled = none := by simp [quiet]
        have apart : l ≠ (s.heap.push (bare_ w)).objs.size := by
          rw [Heap.size_push]
          exact Nat.ne_of_lt (Nat.lt_trans below (Nat.lt_succ_self _))
        have free_ : s.heap.objs.size ∉ [(s.heap.push (bare_ w)).objs.size, l] := by
          rw [Heap.size_push]
          intro z
          rcases List.mem_cons.mp z with z | z
          · exact Nat.ne_of_lt (Nat.lt_succ_self _) z
          · exact Nat.ne_of_gt below (List.mem_singleton.mp z)
        have each : ∀ (i : Nat) (v : Value), its[i]? = some v → ∃ k t, ns[i]? = some k ∧ v = .int k t := fun i v hv => by
          have lt : i < ns.length := by rw [← many]; exact (Array.getElem?_eq_some_iff.mp hv).1
          obtain ⟨t, e⟩ := PyProof.Rows.IntsAre.int_at hIts i v (by rw [Array.getElem?_toList]; exact hv)
          exact ⟨ns[i], t, List.getElem?_eq_getElem lt, by rw [e, List.getD_eq_getElem?_getD, List.getElem?_eq_getElem lt] <;> rfl⟩
        refine set_update_ints ((Walks.list quiet3 _ l apart its).toS) s.heap.objs.size free_ ns many few each (its.size - 0) 0 _ (by omega) (Nat.zero_le _) ⟨⟨_, Heap.get?_push_size _ rfl, rfl, rfl⟩, (lst1.push _)⟩ ⟨0, Nat.le_refl 0, setR_new_at (Heap.get?_push_of_some _ at1)⟩ fun s3 c3 mv le3 set3 => ?_
        obtain ⟨h3, g3, d3, t3, o3⟩ := s3
        have eg : g3 = s.gens := mv.gens
        have ed : d3 = s.drawn := mv.drawn
        have eo : o3 = s.os := mv.os
        subst eg; subst ed; subst eo
        change wpAny _ _ _ _ _ _
        refine wpAny_pure ?_
        change wpAny _ _ (ret Value.none) _ _ _
        rw [many] at le3
        refine wpAny_pure ⟨rfl, h3, t3, c3, rfl, set3, le3, fun b o e => ?_⟩
        have lt : b < s.heap.objs.size := Heap.lt_size e
        refine mv.heap b o ?_ (Heap.get?_push_of_some _ (Heap.get?_push_of_some _ e))
        rw [Heap.size_push]
        intro z
        rcases List.mem_cons.mp z with z | z
        · exact Nat.ne_of_lt lt z
        · exact Nat.ne_of_lt (Nat.lt_trans lt (Nat.lt_succ_self _)) (List.mem_singleton.mp z)
      · cases res2 with
        | error e => exact got2
        | ok fl2 =>
          cases fl2 with
          | ret r =>
            obtain ⟨rfl, h3, t3, c3, rfl, all_⟩ := got2
            repeat (any_goals (first | assumption | wp_step))
            exact then_ _ _ _ all_
          | _ => exact got2.elim
    | _ => exact got.elim
end
end L2

namespace Dz
open PySem PySem.Spec PyProof.Rows L2
/-! ### sorted(set(xs)) of ints -/
def rSetL (K : PySem.W.Frag) (w : World) : List V → Hp → VK → Prop := fun xs H Q => ∃ (l : Addr) (ns : List Int), xs = [V.ref l] ∧ SqL K H l (ns.map V.int) ∧ ns.length < 60 ∧
  ∀ p c, H p = none → c ≤ ns.length → Q (.ref p) (upd H p (SetO w p (fun j => decide (j ∈ ns)) c))
theorem cr_setL {X : Cx} (hc : X.calm = true) : CallR X (.type "set") (rSetL X.K X.w) := by
  intro pins s σ H xs us Q I r h
  obtain ⟨l, ns, rfl, hl, few, q⟩ := h
  rw [Vals.ref1 r]
  obtain ⟨its, rv, pl, hz⟩ := I.list hl
  refine setOfList (P := X.prog) (w := X.w) ns (I.ok.hd hc) pl.isList (by simpa using rv.ints) (by unfold scanBound; omega) fun h' tk c ⟨set_, le_, keep_⟩ => ?_
  exact ⟨.ref s.heap.objs.size, upd H s.heap.objs.size (SetO X.w s.heap.objs.size (fun j => decide (j ∈ ns)) c), I.laid (t' := tk) keep_ (Nat.le_refl _) (setO_new set_), rfl, q _ c (I.hok.fresh (Nat.le_refl _)) le_⟩
theorem setLK {X : Cx} {K : PySem.W.Frag} {w : World} (h : X.K = K) (hw : X.w = w) (hc : X.calm = true) : CallR X (.type "set") (rSetL K w) := by subst h; subst hw; exact cr_setL hc
theorem sortSetK {X : Cx} {w : World} (hw : X.w = w) (hc : X.calm = true) : CallR X (.builtin "sorted") (rSortedSet w) := by subst hw; exact cr_sortedSet hc
/-- ints -/
def intsOf : List D → Option (List Int)
  | [] => some []
  | .int b :: r => (intsOf r).map (b :: ·)
  | _ => none
theorem intsOf_inv : ∀ {ds : List D} {bs : List Int}, intsOf ds = some bs → ds = bs.map D.int
  | [], bs, h => by cases h; rfl
  | d :: ds, bs, h => by
    cases d with
    | int b =>
      unfold intsOf at h
      cases e : intsOf ds with
      | none => rw [e] at h; cases h
      | some cs =>
        rw [e] at h
        have h' : b :: cs = bs := Option.some.inj h
        subst h'
        rw [intsOf_inv e]; rfl
    | _ => cases h
theorem intsOf_map (bs : List Int) : intsOf (bs.map D.int) = some bs := by
  induction bs with
  | nil => rfl
  | cons b bs ih => show (intsOf (bs.map D.int)).map (b :: ·) = _; rw [ih]; rfl
def isL (d : D) (Q : List D → Prop) : Prop := match d with
  | .lst ds => Q ds
  | _ => False
/-- the ascending list of the different ones -/
def mSortSet (ma : ME) : ME := fun ρ Q => ma ρ fun d => isL d fun ds => someD (intsOf ds) fun ns => ns.length < 60 ∧ ∀ ms : List Int, ms.Pairwise (· < ·) → (∀ k, k ∈ ms ↔ k ∈ ns) → Q (.lst (ms.map D.int))
section
variable {G : Ga} {w : World} {ta : TE} {ma : ME} {tA : TA} {mA : MA}
theorem evd_sortSet (h : EvD G ta ma) : EvD G (tCB (rSortedSet w) (tCons (tCB (rSetL G.K w) (tCons ta tNil)) tNil)) (mSortSet ma) := by
  intro B H σ ρ hS Qd Q hQ hm
  refine h B H σ ρ hS (fun d => isL d fun ds => someD (intsOf ds) fun ns => ns.length < 60 ∧ ∀ ms : List Int, ms.Pairwise (· < ·) → (∀ k, k ∈ ms ↔ k ∈ ns) → Qd (.lst (ms.map D.int))) _ (fun d v H1 q b1 ok1 hd => ?_) hm
  cases hd with
  | lst ha na hds =>
    obtain ⟨ns, e, few, q2⟩ := someD_inv q
    have := intsOf_inv e
    subst this
    have := hds.ints
    subst this
    refine ⟨_, ns, rfl, .inl (.inl ha), few, fun p c hp hc => ?_⟩
    refine ⟨p, _, c, rfl, upd_same, by omega, fun ms p2 asc mem many hp2 => ?_⟩
    have k1 : Bx .no H1 (upd H1 p (SetO w p (fun j => decide (j ∈ ns)) c)) := Bx.new hp
    have ok2 := ok1.ex k1
    exact hQ _ _ _ (q2 ms asc fun k => (mem k).trans decide_eq_true_iff) ((b1.trans k1.nil).trans (Bx.new hp2)) (ok2.new hp2) (dt_newL ok2 hp2 (Dts.ofInts ms))
  | _ => exact (show False from q).elim
/-! ### min(xs), max(xs) of ints -/
def minL (ds : List D) (Q : D → Prop) : Prop := match ds with
  | [.lst xs] => someD (intsOf xs) fun ns => ns ≠ [] ∧ ∀ m, m ∈ ns → (∀ y, y ∈ ns → m ≤ y) → Q (.int m)
  | ds => minF ds Q
def maxL (ds : List D) (Q : D → Prop) : Prop := match ds with
  | [.lst xs] => someD (intsOf xs) fun ns => ns ≠ [] ∧ ∀ m, m ∈ ns → (∀ y, y ∈ ns → y ≤ m) → Q (.int m)
  | ds => maxF ds Q
theorem minLK {X : Cx} {K : PySem.W.Frag} (h : X.K = K) (hc : X.calm = true) : CallR X (.builtin "min") (rMin K) := by subst h; exact cr_min hc
theorem maxLK {X : Cx} {K : PySem.W.Frag} (h : X.K = K) (hc : X.calm = true) : CallR X (.builtin "max") (rMax K) := by subst h; exact cr_max hc
def minLF (ds : List D) (Q : D → Prop) : Prop := match ds with
  | [.lst xs] => someD (intsOf xs) fun ns => ns ≠ [] ∧ ∀ m, m ∈ ns → (∀ y, y ∈ ns → m ≤ y) → Q (.int m)
  | _ => False
def maxLF (ds : List D) (Q : D → Prop) : Prop := match ds with
  | [.lst xs] => someD (intsOf xs) fun ns => ns ≠ [] ∧ ∀ m, m ∈ ns → (∀ y, y ∈ ns → y ≤ m) → Q (.int m)
  | _ => False
theorem calld_minL : CallD G (rMin G.K) minLF := by
  intro B H x dx ok hx Qd Q hQ hm
  unfold minLF at hm
  split at hm
  · obtain ⟨v, rfl, hv⟩ := hx.one
    obtain ⟨ns, e, ne, q⟩ := someD_inv hm
    have := intsOf_inv e
    subst this
    cases hv with
    | lst h1 n1 s1 =>
      have := s1.ints
      subst this
      exact ⟨_, ns, rfl, .inl (.inl h1), List.length_pos_iff.mpr ne, fun m h2 h3 => hQ _ _ H (q m h2 h3) (Bx.refl _ _) (.int m)⟩
  · exact hm.elim
theorem calld_maxL : CallD G (rMax G.K) maxLF := by
  intro B H x dx ok hx Qd Q hQ hm
  unfold maxLF at hm
  split at hm
  · obtain ⟨v, rfl, hv⟩ := hx.one
    obtain ⟨ns, e, ne, q⟩ := someD_inv hm
    have := intsOf_inv e
    subst this
    cases hv with
    | lst h1 n1 s1 =>
      have := s1.ints
      subst this
      exact ⟨_, ns, rfl, .inl (.inl h1), List.length_pos_iff.mpr ne, fun m h2 h3 => hQ _ _ H (q m h2 h3) (Bx.refl _ _) (.int m)⟩
  · exact hm.elim
/-! ### stars -/
def isSq (d : D) (Q : List D → Prop) : Prop := match d with
  | .lst ds => Q ds
  | .tup ds => Q ds
  | _ => False
def mStar (ma : ME) (mA : MA) : MA := fun ρ Q => ma ρ fun d => isSq d fun xs => mA ρ fun ys => Q (xs ++ ys)
theorem eva_star (h : EvD G ta ma) (hA : EvA G tA mA) : EvA G (StX.tStar G.K ta tA) (mStar ma mA) := by
  intro B H σ ρ hS Qd Q hQ hm
  refine h B H σ ρ hS (fun d => isSq d fun xs => mA ρ fun ys => Qd (xs ++ ys)) _ (fun d v H1 q b1 ok1 hd => ?_) hm
  have go : ∀ {p : Addr} {vs : List V} {ds : List D}, v = .ref p → (SqT G.K H1 p vs ∨ SqL G.K H1 p vs) → Dts G B H1 vs ds → (mA ρ fun ys => Qd (ds ++ ys)) → ∃ p xs, v = V.ref p ∧ (SqT G.K H1 p xs ∨ SqL G.K H1 p xs) ∧ tA σ H1 fun ys H2 => Q (xs ++ ys) H2 := fun {p vs ds} e hs hd q =>
    ⟨p, vs, e, hs, hA B H1 σ ρ (hS.bx b1 ok1) (fun ys => Qd (ds ++ ys)) _ (fun ys us H2 q2 b2 ok2 hu => hQ _ _ H2 q2 (b1.trans b2) ok2 ((hd.bx (b2.sub ok1.sub)).append hu)) q⟩
  cases hd with
  | lst ha na hds => exact go rfl (.inr (.inl (.inl ha))) hds q
  | tup ha hds => exact go rfl (.inl ha.sq) hds q
  | _ => exact (show False from q).elim
/-! ### zip(xs, ys) of two lists -/
def zipD : List D → List D → List D
  | x :: xs, y :: ys => .tup [x, y] :: zipD xs ys
  | _, _ => []
theorem zipD_len : ∀ (xs ys : List D), (zipD xs ys).length = min xs.length ys.length
  | [], _ => by simp [zipD]
  | _ :: _, [] => by simp [zipD]
  | x :: xs, y :: ys => by simp [zipD, zipD_len xs ys] <;> omega
theorem zipD_get : ∀ (xs ys : List D) (i : Nat) (e : D), (zipD xs ys)[i]? = some e → ∃ x y, xs[i]? = some x ∧ ys[i]? = some y ∧ e = .tup [x, y]
  | [], _, i, e, h => by simp [zipD] at h
  | _ :: _, [], i, e, h => by simp [zipD] at h
  | x :: xs, y :: ys, 0, e, h => by simp [zipD] at h; exact ⟨x, y, rfl, rfl, h.symm⟩
  | x :: xs, y :: ys, i + 1, e, h => by
    simp only [zipD, List.getElem?_cons_succ] at h
    obtain ⟨a, b, h1, h2, h3⟩ := zipD_get xs ys i e h
    exact ⟨a, b, by simpa using h1, by simpa using h2, h3⟩
theorem itd_zip {B : Bs} {H : Hp} {a b : Addr} {vs us : List V} {xs ys : List D} (h1 : H a = some (.lst vs)) (h2 : a ∉ B) (h3 : Dts G B H vs xs) (g1 : H b = some (.lst us)) (g2 : b ∉ B) (g3 : Dts G B H us ys) : ItD G B H (Itz G.K a b) (zipD xs ys) := by
  intro B' H' k ok i
  have q1 : SqL G.K H' a vs := .inl (.inl (k _ _ h2 h1).2)
  have q2 : SqL G.K H' b us := .inl (.inl (k _ _ g2 g1).2)
  have h4 : Dts G B' H' vs xs := h3.to k
  have g4 : Dts G B' H' us ys := g3.to k
  refine ⟨fun e => ⟨vs, us, q1, q2, ?_⟩, fun d e => ?_⟩
  · rw [zipD_len] at e
    rw [h3.length, g3.length]
    omega
  · obtain ⟨x, y, ex, ey, rfl⟩ := zipD_get xs ys i d e
    obtain ⟨v, ev, hv⟩ := h4.get ex
    obtain ⟨u, eu, hu⟩ := g4.get ey
    refine ⟨⟨vs, us, v, u, q1, q2, ev, eu⟩, fun z H'' hy => ?_⟩
    obtain ⟨T, v', u', rfl, hT, rfl, f1, f2⟩ := hy
    have e1 : v = v' := Option.some.inj (ev.symm.trans (f1 _ q1))
    have e2 : u = u' := Option.some.inj (eu.symm.trans (f2 _ q2))
    subst e1
    subst e2
    exact ⟨Bx.new hT, dt_newT ok hT (.cons hv (.cons hu .nil))⟩
def miZip (m : MA) : MA := fun ρ Q => m ρ fun ds => match ds with
  | [.lst xs, .lst ys] => Q (zipD xs ys)
  | _ => False
theorem evi_zip (h : EvA G tA mA) : EvI G (iZip G.K tA) (miZip mA) := by
  intro B H σ ρ hS Qd Q hQ hm
  refine h B H σ ρ hS (fun ds => match ds with
    | [.lst xs, .lst ys] => Qd (zipD xs ys)
    | _ => False) _ (fun ds v H1 q b1 ok1 hd => ?_) hm
  split at q
  · obtain ⟨w1, w2, rfl, hv, hw⟩ := hd.two
    cases hv with
    | lst h1 h2 h3 =>
      cases hw with
      | lst g1 g2 g3 => exact ⟨_, _, _, _, rfl, .inl (.inl h1), .inl (.inl g1), hQ _ _ H1 q b1 ok1 (itd_zip h1 h2 h3 g1 g2 g3)⟩
  · exact q.elim
theorem pi_zipK {X : Cx} {K : PySem.W.Frag} (h : X.K = K) {e e2 : Expr} {ta : TA} {p pos tpos : Pos} {elts : List Expr} {kk : Nat} (hg : Gl X "zip") (hm : X.mg "zip" = none) (ha : PA X [e, e2] ta)
    (hs : starEach [e, e2] X.env = (false, eval e X.env) :: starEach [e2] X.env := by rfl) (hpl : (backTo pos (starEach [e2] X.env)).any (·.1) = false := by rfl) :
    PI X (.Tuple elts kk tpos) (.Call (.Name "zip" p) [e, e2] [] pos) (iZip K ta) := by subst h; exact pi_zip hg hm ha hs hpl
/-! ### own lists: extend, reverse, clear -/
/-- what changes an own list to another one -/
theorem evs_own1 {i : Nat} {r : V → List V → Hp → VK → Prop} {g : List D → List D} {gv : List V → List V} (hr : ∀ (a : Addr) (vs : List V) (H : Hp) (Q : VK), H a = some (.lst vs) → Q .non (upd H a (.lst (gv vs))) → r (.ref a) [] H Q)
    (hg : ∀ {B : Bs} {H : Hp} {vs : List V} {ds : List D}, Dts G B H vs ds → Dts G B H (gv vs) (g ds)) : EvS G (tDrop (tBM0 G.K "list" r (tVar i))) (fun Z ρ => ownD ρ[i]? fun ds => Z.nx (ρ.set i (.own (g ds)))) := by
  intro B0 H0 B H σ ρ hS Z E C hm
  unfold ownD at hm
  split at hm
  · rename_i ds e
    obtain ⟨a, vs, ea, ha, hB, hG, hd⟩ := hS.sta.own i ds e
    refine ⟨_, ea, .inl ⟨rfl, _, .inl (.inl ha)⟩, hr a vs H _ ha ?_⟩
    obtain ⟨s3, t3⟩ := hS.putOwn e ea (hg hd)
    exact C.nx _ _ B _ hm s3 t3
  · exact hm.elim
def sRev (i : Nat) : MS := fun Z ρ => ownD ρ[i]? fun ds => Z.nx (ρ.set i (.own ds.reverse))
def sClr (i : Nat) : MS := fun Z ρ => ownD ρ[i]? fun ds => Z.nx (ρ.set i (.own []))
theorem Dts.rev {B : Bs} {H : Hp} : ∀ {vs : List V} {ds : List D}, Dts G B H vs ds → Dts G B H vs.reverse ds.reverse
  | _, _, .nil => .nil
  | _, _, .cons a t => by rw [List.reverse_cons, List.reverse_cons]; exact (Dts.rev t).append (.cons a .nil)
theorem evs_rev {i : Nat} : EvS G (tDrop (tBM0 G.K "list" rReverse (tVar i))) (sRev i) :=
  evs_own1 (g := List.reverse) (gv := List.reverse) (fun a vs H Q ha q => ⟨a, vs, rfl, rfl, ha, q⟩) Dts.rev
theorem evs_clr {i : Nat} : EvS G (tDrop (tBM0 G.K "list" rClear (tVar i))) (sClr i) :=
  evs_own1 (g := fun _ => []) (gv := fun _ => []) (fun a vs H Q ha q => ⟨a, vs, rfl, rfl, ha, q⟩) (fun _ => .nil)
/-- x.extend(e) -/
def sExt (i : Nat) (m : ME) : MS := fun Z ρ => ownD ρ[i]? fun ds => m ρ fun d => isL d fun es => ds.length + es.length ≤ sizeLine ∧ Z.nx (ρ.set i (.own (ds ++ es)))
theorem evs_ext {i : Nat} {te : TE} {me : ME} (h : EvD G te me) : EvS G (tDrop (tBM G.K "list" rExtend (tVar i) (tCons te tNil))) (sExt i me) := by
  intro B0 H0 B H σ ρ hS Z E C hm
  unfold sExt ownD at hm
  split at hm
  · rename_i ds e
    obtain ⟨a, vs, ea, ha, hB, hG, hd⟩ := hS.sta.own i ds e
    refine ⟨_, ea, .inl ⟨rfl, _, .inl (.inl ha)⟩, ?_⟩
    refine h B H σ ρ hS.sta (fun d => isL d fun es => ds.length + es.length ≤ sizeLine ∧ Z.nx (ρ.set i (.own (ds ++ es)))) _ (fun d v H1 q b1 ok1 hv => ?_) hm
    obtain ⟨s1, t1⟩ := hS.step b1 ok1
    have ha1 : H1 a = some (.lst vs) := b1 a _ hG ha
    have hd1 := hd.bx (b1.sub hS.sta.ok.sub)
    cases hv with
    | lst hb nb hes =>
      obtain ⟨hl, q⟩ := q
      obtain ⟨s3, t3⟩ := s1.putOwn e ea (hd1.append hes)
      exact ⟨a, _, vs, _, rfl, rfl, ha1, hb, by rw [hd1.length, hes.length]; exact hl, C.nx _ _ B _ q s3 (t1.trans t3)⟩
    | _ => exact (show False from q).elim
  · exact hm.elim
end
end Dz

namespace Dz
open PySem PySem.Spec PyProof.Rows L2
/-! ### repr where lists are being written already -/
/-- what is being written is lists alone -/
def GOk (K : PySem.W.Frag) (g : List Code) (H : Hp) : Prop := ∀ b, ((∀ vs, H b ≠ some (.lst vs)) ∨ ∃ vs, SqT K (fun _ => none) b vs) → Clear g b
theorem GOk.nil (K : PySem.W.Frag) (H : Hp) : GOk K [] H := fun b _ => Clear.nil b
/-- defs that may look at how things are written, also while lists of other things are written -/
structure FnW (P : Program) (w : World) (K : PySem.W.Frag) (mg : Str → Option Value) (base : Heap) (CX : CXT) (k : Nat) (f : Addr) (fd : FuncData) (ps : List Str) (sp : Sp) : Prop where
  len : ∀ vs H Q E, sp vs H Q E → vs.length = ps.length
  run : ∀ (A : Around) (outer : List Env) (s : Shared) (H : Hp) (args : Args) (us : List Value) (vs : List V) (Q : VK) (E : XK) (g : List Code), Room k A → A.guards = some g → GOk K g H →
    Env0 P w K mg base A outer s H → BindsTo s fd args (ps.zip us) → Vals vs us → sp vs H Q E → codeAny (model P w) A (.call (.ref f) args) (CR CX outer P w H s Q E) s
section
variable {P : Program} {w : World} {K : PySem.W.Frag} {mg : Str → Option Value} {base : Heap} {CX : CXT}
theorem fnW_of {x qual : Str} {st : Stmt} {f : Addr} {fd : FuncData} {N ps : List Str} {k : Nat} {sp : Sp} (F : Fun K x qual st f fd) (S : FnScope N ps (defScope st)) (len : ∀ vs H Q E, sp vs H Q E → vs.length = ps.length)
    (hbody : ∀ (cdv : Value) (A : Around) (outer : List Env) (s : Shared) (H : Hp) (vs : List V) (Q : VK) (E : XK) (g : List Code), Room k (A.deeper (envOfC qual (defScope st) s.heap.objs.size f cdv)) → A.guards = some g → GOk K g H → sp vs H Q E →
      ∃ t, PSs (cxOf CX P w K mg base N qual (defScope st) f cdv A outer s H E) (defBody st) t ∧ t { nx := fun _ H' => Q .non H', rt := Q } (L2.start N vs) H) : FnW P w K mg base CX (k + 1) f fd ps sp := by
  obtain ⟨oc, od, kV, doc, pm, an, cdv, ct, osl, rfl, lk, hcd⟩ := F.ex
  refine ⟨len, fun A outer s₀ H args us vs Q E g room quiet okg e0 hb r promise => ?_⟩
  have KX : K.In s₀.heap := e0.mod.kin.keeps fun b o e => (e0.bs b o e).1
  have hkind : ∀ y ∈ ps.zip us, (defScope st).names.lookup y.1 = some .local ∨ ((defScope st).names.lookup y.1 = some .cell ∧ ((cellsFrom (s₀.heap.objs.size + 1) (defScope st).names []).lookup y.1).isSome = true) := by
    rintro ⟨n, v⟩ hy
    rcases S.par n (List.of_mem_zip hy).1 with q | q
    · left; exact q
    · right; exact ⟨q, PySem.W.cellsFrom_some _ _ _ (.inl q)⟩
  refine codeAny_call_function room.depth (KX _ _ lk) rfl S.co S.gen rfl (PySem.W.codeRec_of KX hcd) (hb _ _ _ _ (wpAny_newFunctionEnv_cells S.kind hkind fun env he s1 x => ?_))
  subst he
  refine ⟨(e0.mod.nolimit.keeps fun b o e => (e0.bs b o e).1).keeps x.toInCall.keep, codeAny_func ?_⟩
  obtain ⟨t, ht, hq⟩ := hbody cdv A outer s₀ H vs Q E g (room.deeper _) quiet okg promise
  refine wpAny_mono (ht.run [] s1 (L2.start N vs) H _ (inv_start S room.hd e0 (len _ _ _ _ promise) r x) hq) (fun fl s' hs => ?_) fun e s' hs => hs
  cases fl with
  | ret u => obtain ⟨v, σ', H', J, rv, q⟩ := hs; exact ⟨v, H', J.os, J.bare, J.base, J.hok, rv, q⟩
  | next => obtain ⟨σ', H', J, q⟩ := hs; exact ⟨V.non, H', J.os, J.bare, J.base, J.hok, rfl, q⟩
  | brk => obtain ⟨_, _, _, q⟩ := hs; exact q.elim
  | cont => obtain ⟨_, _, _, q⟩ := hs; exact q.elim
end
/-! ### the loop over a list's items, each of which may run code -/
section
variable {prog : Program} {w : World} {A : Around} {R : Result → Shared → Prop}
abbrev loopC (a P : Addr) (i n : Nat) : Code := .builtin "list.__repr__.loop" ⟨[.ref a, rawInt i, .ref P, rawInt ((n : Nat) : Int)], []⟩
/-- what holds between the items: I of what is laid at P so far -/
structure RLoop (prog : Program) (w : World) (A : Around) (E : Value → Shared → Prop) (a P : Addr) (its : Array Value) (ts : List Str) (I : Array Value → Shared → Prop) : Prop where
  ne : a ≠ P
  at_ : ∀ acc s, I acc s → ∃ c, s.heap.get? P = some { cls := .type "list", dict := none, data := .seq acc c, slots := #[] }
  ls : ∀ acc s, I acc s → ∃ oa na, s.heap.get? a = some oa ∧ oa.data = .seq its na
  item : ∀ (i n base : Nat) (x : Value) (t : Str) (acc : Array Value) (s : Shared) (Q : Str → Shared → Prop), its[i]? = some x → ts[i]? = some t → I acc s → base + t.length ≤ sizeLine → (∀ s', I acc s' → Q t s') → wpAny (model prog w) (A.under (loopC a P i n)) (pyReprUnder base x) Q E s
  tok : ∀ acc s tk, I acc s → I acc { s with toks := tk }
  push : ∀ acc s v, I acc s → I (acc.push v) { s with heap := s.heap.update P (Obj.mapSeq (·.push v)) }
theorem rloop {a P : Addr} {its : Array Value} {ts : List Str} {I : Array Value → Shared → Prop} (L : RLoop prog w A (fun e s' => R (.error e) s') a P its ts I) (many : ts.length = its.size) (fits : (listText ts).length ≤ sizeLine)
    (fin : ∀ acc s u tk, I acc s → R (.ok (.ret (.str (listText ts) u))) { s with toks := tk }) :
    ∀ (left i : Nat) (s : Shared) (acc : Array Value) (done : List (Str × Tok)), its.size - i = left → i ≤ its.size → I acc s → acc.toList = strValues done → done.map (·.1) = ts.take i →
      codeAny (model prog w) A (loopC a P i (0 + piled (ts.take i))) R s := by
  have bound := textFrom_len ts 0 "["
  have whole : (listText ts).length = (textFrom 0 "[" ts).length + 1 := by
    show (textFrom 0 "[" ts ++ "]").length = _
    rw [strLen_append]; rfl
  have few : its.size ≤ sizeLine := by
    have b1 := bound.1
    rw [if_neg (Nat.lt_irrefl 0)] at b1
    omega
  have short : ∀ t ∈ ts, t.length ≤ sizeLine := fun t ht => by
    have b2 := bound.2.1 t ht
    omega
  have heap_ := piled_le_listText ts
  intro left
  induction left with
  | zero =>
    intro i s acc done hk hi hI hacc hdone
    have at_end : i = its.size := by omega
    obtain ⟨c, hP⟩ := L.at_ acc s hI
    obtain ⟨oa, na, ha, hda⟩ := L.ls acc s hI
    refine codeAny_builtin F.entry_list_repr_loop ?_
    change wpAny _ _ (Builtin.«list.__repr__.loop» ⟨[.ref a, .int i 0, .ref P, .int ((0 + piled (ts.take i) : Nat) : Int) 0], []⟩) _ _ s
    rw [PySem.repr_loop_tree]
    refine wpAny_bind (PySem.wpAny_listItems ha hda ?_)
    have none_ : its[(i : Int).toNat]? = none := by simp [at_end]
    simp only [none_]
    unfold PySem.reprEnd
    refine wpAny_bind (PySem.wpAny_listItems hP rfl ?_)
    rw [hacc, PySem.repr_fold]
    refine wpAny_bind (wpAny_pure ?_)
    have all_ : done.map (·.1) = ts := by rw [hdone, at_end, ← many, List.take_length]
    rw [all_]
    exact wpAny_bind (wpAny_mkStr (wpAny_pure (fin acc s _ _ hI)) fits)
  | succ left ih =>
    intro i s acc done hk hi hI hacc hdone
    have lt : i < its.size := by omega
    obtain ⟨t, ht⟩ : ∃ t, ts[i]? = some t := ⟨ts[i], List.getElem?_eq_getElem (by omega)⟩
    have step1 := PySem.piled_take_succ ht
    have step2 := PySem.piled_take_le ts (i + 1)
    obtain ⟨oa, na, ha, hda⟩ := L.ls acc s hI
    refine codeAny_builtin F.entry_list_repr_loop ?_
    change wpAny _ _ (Builtin.«list.__repr__.loop» ⟨[.ref a, .int i 0, .ref P, .int ((0 + piled (ts.take i) : Nat) : Int) 0], []⟩) _ _ s
    rw [PySem.repr_loop_tree]
    refine wpAny_bind (PySem.wpAny_listItems ha hda ?_)
    have some_ : its[(i : Int).toNat]? = some its[i] := by simp [lt]
    simp only [some_]
    rw [Int.toNat_natCast]
    refine wpAny_bind (wpAny_holding (L.item i _ (0 + piled (ts.take i) + 1) its[i] t acc s _ (by simp [lt]) ht hI (by omega) fun s1 hI1 => ?_))
    obtain ⟨c, hP⟩ := L.at_ acc s1 hI1
    refine wpAny_bind (wpAny_mkStr ?_ (short t (List.mem_of_getElem? ht)))
    refine wpAny_bind ?_
    change wpAny _ _ (updateSeq P _) _ _ _
    have small_ : acc.size ≤ sizeLine := by
      have e1 : acc.toList.length = acc.size := by simp
      have e2 : (strValues done).length = done.length := by simp [strValues]
      have e3 : done.length = (ts.take i).length := by rw [← hdone, List.length_map]
      have e4 : (ts.take i).length ≤ i := by rw [List.length_take]; omega
      rw [hacc] at e1; omega
    refine wpAny_updateSeq hP rfl (wpAny_pure ⟨F.quiet_list_repr_loop _, ?_⟩) small_
    have e1 : ((i : Int) + 1) = ((i + 1 : Nat) : Int) := by omega
    have e2 : 0 + piled (ts.take i) + (t.length + 2) = 0 + piled (ts.take (i + 1)) := by omega
    rw [e1, e2]
    refine ih (i + 1) _ (acc.push (.str t s1.toks)) (done ++ [(t, s1.toks)]) (by omega) lt (L.push acc _ _ (L.tok acc _ _ hI1)) (by simp [hacc, strValues]) (by simp [List.take_add_one, ht, hdone])
end
/-! ### the same in a running body -/
theorem vals_refs : ∀ {bs : List Addr} {us : List Value}, Vals (bs.map V.ref) us → us = bs.map Value.ref
  | [], [], _ => rfl
  | [], _ :: _, h => by cases h
  | _ :: _, [], h => by cases h
  | b :: bs, u :: us, h => by
    cases h with
    | cons a t =>
      have e1 : u = Value.ref b := a
      rw [e1, vals_refs t]; rfl
section
variable {A : Around}
theorem under_depth (a P : Addr) (i n : Nat) : (A.under (loopC a P i n)).depth ≤ A.depth + 1 := by
  have e : (A.under (loopC a P i n)).depth = A.depth ∨ (A.under (loopC a P i n)).depth = A.depth + 1 := by
    first | exact .inl rfl | exact .inr rfl | (left; simp [Around.under, Code.weight, Code.isCreation, Code.isGuard, Code.isCaller, Code.frames, Code.isFrame, guardIds]) | (right; simp [Around.under, Code.weight, Code.isCreation, Code.isGuard, Code.isCaller, Code.frames, Code.isFrame, guardIds])
  rcases e with e | e <;> omega
theorem Room.loop {k : Nat} (r : Room (k + 1) A) (a P : Addr) (i n : Nat) : Room k (A.under (loopC a P i n)) :=
  ⟨r.hd, by have := r.dp; have := under_depth (A := A) a P i n; omega, by have := r.un; rw [show (A.under (loopC a P i n)).units = A.units + 1 from units_under_list_loop _ _]; omega⟩
end
/-- repr of a list of instances of C, by the class's own __repr__ -/
def rReprI (C : Addr) (sp : Sp) (E : XK) : List V → Hp → VK → Prop := fun xs H Q => ∃ (a : Addr) (bs : List Addr) (ts : List Str) (J : Hp → Prop), xs = [.ref a] ∧ bs ≠ [] ∧ J H ∧ ts.length = bs.length ∧ (listText ts).length ≤ sizeLine ∧
  (∀ H', J H' → H' a = some (.lst (bs.map V.ref))) ∧
  (∀ (i : Nat) b t, bs[i]? = some b → ts[i]? = some t → ∀ H', J H' → (∃ dx fs, H' b = some (.ins C dx fs)) ∧ sp [.ref b] H' (fun r H'' => r = .str t ∧ J H'') E) ∧ ∀ H', J H' → Q (.str (listText ts)) H'
section
variable {X : Cx} {CX : CXT} {k : Nat} {C f : Addr} {fd : FuncData} {ps : List Str} {sp : Sp} {E : XK}
/-- an instance is written below a list that is being written -/
theorem reprUnderOwn (F : FnW X.prog X.w X.K X.mg X.base CX k f fd ps sp) (hs : PySem.W.findIn X.K (.ref C) "__repr__" = some (some (.ref f))) (hf : PySem.W.isFn X.K (.ref f) = true) (hb : Binds X.K fd ps []) (hx : Passes CX X E)
    {A : Around} {g : List Code} {pins : List (Addr × Obj)} {σ : L2.St} {H : Hp} {s : Shared} {b dx : Addr} {fs : List (Str × V)} {t : Str} {J : Hp → Prop} {base : Nat} {Q : Str → Shared → Prop} (hr : Room k A) (hfr : A.frames = X.A.frames) (hg : A.guards = some g) (okg : GOk X.K g H)
    (I : Inv X pins σ H s) (ha : H b = some (.ins C dx fs)) (hsp : sp [.ref b] H (fun r H' => r = .str t ∧ J H') E) (fit : base ≤ sizeLine) (q : ∀ s' H', Inv X pins σ H' s' → J H' → Q t s') : wpAny (model X.prog X.w) A (pyReprUnder base (.ref b)) Q X.xe s := by
  obtain ⟨mA, O, _⟩ := ins_get I.hok ha
  obtain ⟨od, O, _⟩ := O.look
  refine wpAny_pyReprUnder_ref fit ?_
  have called : wpAny (model X.prog X.w) A (call (.ref f) [.ref b]) (fun v s' => ∃ u, v = .str t u ∧ Q t s') X.xe s := by
    have e0 : Env0 X.prog X.w X.K X.mg X.base A X.stack s H := by
      have e := I.env0
      exact ⟨by rw [hfr]; exact e.frames, e.mod, e.bs, e.bsz, e.funs, e.frf, e.hok, e.bare⟩
    have hl := F.len _ _ _ _ hsp
    refine wpAny_call (codeAny_mono (F.run A X.stack s H ⟨[.ref b], []⟩ [.ref b] [.ref b] _ E g hr hg okg e0 (by
      have := hb s [.ref b] I.kIn (by simpa using hl)
      simpa using this) (.cons rfl .nil) hsp) fun r s' hq => ?_)
    cases r with
    | error e => exact hx pins σ H s e s' I hq
    | ok fl =>
      cases fl with
      | ret w =>
        obtain ⟨z, H', I', rz, ez, hJ⟩ := I.after hq
        subst ez
        obtain ⟨u, rfl⟩ := rz
        exact ⟨u, rfl, q s' H' I' hJ⟩
      | next => exact False.elim hq
      | brk => exact False.elim hq
      | cont => exact False.elim hq
  unfold pyReprObjUnder pyReprObjBy
  refine wpAny_bind (wpAny_cRoomFor hr.units0 ?_)
  refine wpAny_bind (wpAny_bind (O.type.here ((PySem.W.looks_findIn I.kIn hs).here ?_)))
  change wpAny _ _ (if (some (Value.ref f)).isNone = true then _ else _) _ _ _
  rw [if_neg (by simp)]
  refine wpAny_bind ?_
  simp only [callSpecialIfBoundBy?, bindSpecialIfBound?]
  refine wpAny_holding (wpAny_bind (wpAny_bind (wpAny_bind (O.type.here ((PySem.W.looks_findIn I.kIn hs).here ?_)))))
  refine wpAny_bind (wpAny_askSetting (wpAny_ite ?_))
  have told : ∀ {Q2 : Option Value → Shared → Prop}, (∀ u s', Q t s' → Q2 (some (.str t u)) s') → wpAny (model X.prog X.w) A (call (.ref f) ([.ref b] ++ []) >>= fun v => pure (some v)) Q2 X.xe s := fun {Q2} h2 =>
    wpAny_bind (wpAny_mono called (fun v s' hv => by obtain ⟨u, rfl, hq⟩ := hv; exact wpAny_pure (h2 u s' hq)) fun _ _ er => er)
  split
  · refine wpAny_bind ((PySem.W.bind_fn I.kIn _ (beq_iff_eq.mp hf)).here (wpAny_pure ?_))
    refine told fun u s' hq => ?_
    exact wpAny_bind (wpAny_isInstance (T := "str") (b := true) rfl isSubtype_str_str (wpAny_pure ⟨_, _, rfl, hq⟩))
  · refine wpAny_tryCatch (wpAny_bind ((PySem.W.bind_fn I.kIn _ (beq_iff_eq.mp hf)).here (wpAny_pure ?_)))
    refine told fun u s' hq => ?_
    exact wpAny_bind (wpAny_isInstance (T := "str") (b := true) rfl isSubtype_str_str (wpAny_pure ⟨_, _, rfl, hq⟩))
theorem cr_reprI (F : FnW X.prog X.w X.K X.mg X.base CX k f fd ps sp) (hr : Room (k + 3) X.A) (hg : X.A.guards = some []) (hs : PySem.W.findIn X.K (.ref C) "__repr__" = some (some (.ref f))) (hf : PySem.W.isFn X.K (.ref f) = true) (hb : Binds X.K fd ps []) (hx : Passes CX X E) :
    CallR X (.builtin "repr") (rReprI C sp E) := by
  intro pins s σ H xs us Q I r h
  obtain ⟨a, bs, ts, J, rfl, ne, hJ, many, fits, atA, each, q⟩ := h
  rw [Vals.ref1 r]
  have hA := atA H hJ
  obtain ⟨z, its, n, rv, hl, e⟩ := I.lstM hA
  have eits := vals_refs rv
  subst eits
  have hu1 : X.A.units + 1 < cLine := by have := hr.un; omega
  refine call_repr_slot hu1 ⟨_, e, rfl⟩ PySem.F.slot_list_repr.toG ?_
  refine wpAny_call (codeAny_call_builtin PySem.F.slot_list_repr.plain PySem.F.entry_list_repr (PySem.F.slot_list_repr.check _ _ _ _ _ _ _ _ ⟨_, e, rfl⟩ (PySem.F.args_list_repr_1 _) ?_))
  obtain ⟨b0, bs', rfl⟩ : ∃ b0 bs', bs = b0 :: bs' := by
    cases bs with
    | nil => exact absurd rfl ne
    | cons b0 bs' => exact ⟨b0, bs', rfl⟩
  refine wpAny_list_repr_head (A := X.A.in1.in1) hg (fun v rest kw hm => nomatch hm) e rfl ?_
  refine wpAny_bind (m := newList []) (wpAny_newObj_type ?_)
  refine wpAny_pure ⟨PySem.F.quiet_list_repr_loop _, ?_⟩
  -- what holds between the items
  have hn : H s.heap.objs.size = none := I.hok.fresh (Nat.le_refl _)
  have sizes : X.s_0.heap.objs.size ≤ s.heap.objs.size := I.sz
  have freeP : ∀ p ∈ X.pn ++ pins, p.1 ≠ s.heap.objs.size := fun p hp z => by
    have := (I.pin p hp).1
    rw [z] at this
    exact Nat.lt_irrefl _ (Heap.lt_size this)
  have L : RLoop X.prog X.w X.A.in1 (fun e s' => X.xe e s') a s.heap.objs.size ((b0 :: bs').map Value.ref).toArray ts (fun acc s' => ∃ H' c, Inv X ((s.heap.objs.size, { cls := .type "list", dict := none, data := .seq acc c, slots := #[] }) :: pins) σ H' s' ∧ J H') := by
    refine ⟨(fun z => by rw [z, hn] at hA; cases hA), fun acc s' ⟨H', c, I', _⟩ => ⟨c, (I'.pin _ (List.mem_append_right _ List.mem_cons_self)).1⟩, fun acc s' ⟨H', c, I', hJ'⟩ => ?_, fun i m base x t acc s' Q' hx' ht ⟨H', c, I', hJ'⟩ fit q' => ?_, fun acc s' tk ⟨H', c, I', hJ'⟩ => ⟨H', c, I'.tok tk, hJ'⟩, fun acc s' v ⟨H', c, I', hJ'⟩ => ?_⟩
    · obtain ⟨_, its2, n2, rv2, _, e2⟩ := I'.lstM (atA H' hJ')
      rw [vals_refs rv2] at e2
      exact ⟨_, n2, e2, rfl⟩
    · have hx2 : ((b0 :: bs').map Value.ref)[i]? = some x := by simpa using hx'
      rw [List.getElem?_map] at hx2
      cases eb : (b0 :: bs')[i]? with
      | none => rw [eb] at hx2; cases hx2
      | some b =>
        rw [eb] at hx2
        cases hx2
        obtain ⟨⟨dx, fs, hb'⟩, hsp⟩ := each i b t eb ht H' hJ'
        have okg : GOk X.K [loopC a s.heap.objs.size i m] H' := fun b hb => (Clear.nil b).cons fun z => by
          subst z
          have hL := atA H' hJ'
          rcases hb with hb | ⟨ws, hb⟩
          · exact hb _ hL
          · have hT : SqT X.K H' a ws := by
              rcases hb with (hb | ⟨_, hb⟩) | hb
              · cases hb
              · cases hb
              · exact .inr hb
            obtain ⟨_, _, ⟨o, h1, h2, _⟩, _⟩ := I'.tuple hT
            obtain ⟨_, _, _, _, _, h3⟩ := I'.lstM hL
            rw [h3] at h1
            cases h1
            injection h2 with h2
            exact absurd h2 (by decide)
        exact reprUnderOwn F hs hf hb hx (A := X.A.in1.under (loopC a s.heap.objs.size i m)) (g := [loopC a s.heap.objs.size i m]) (Room.loop ((hr.mono (by omega : k + 2 ≤ k + 3)).in1) a _ i m) rfl (guards_under_guard (isGuard_list_loop _) hg) okg I' hb' hsp (by omega) fun s2 H2 I2 hJ2 => q' s2 ⟨H2, c, I2, hJ2⟩
    · have pP := I'.pin _ (List.mem_append_right _ List.mem_cons_self)
      have I0 : Inv X pins σ H' s' := I'.pins_of fun p hp => I'.pin p (List.mem_append_right _ (List.mem_cons_of_mem _ hp))
      have up : ∀ b o, b ≠ s.heap.objs.size → s'.heap.get? b = some o → (s'.heap.update s.heap.objs.size (Obj.mapSeq (·.push v))).get? b = some o := fun b o hb' e' => (Heap.get?_update_other _ _ (fun h => hb' h.symm)).trans e'
      have I1 : Inv X pins σ H' { s' with heap := s'.heap.update s.heap.objs.size (Obj.mapSeq (·.push v)), toks := s'.toks } := I0.turned up pP.2.1 pP.2.2.1 (.inr sizes) (fun x c' hc' z => by
        obtain ⟨w, o, ho, hd⟩ := I'.cell x c' hc'
        rw [z, pP.1] at ho
        cases ho
        exact pP.2.2.2.2 w hd) freeP
      obtain ⟨c2, e2⟩ : ∃ c2, (s'.heap.update s.heap.objs.size (Obj.mapSeq (·.push v))).get? s.heap.objs.size = some { cls := .type "list", dict := none, data := .seq (acc.push v) c2, slots := #[] } := ⟨_, Heap.get?_update_self _ pP.1 rfl⟩
      refine ⟨H', c2, I1.pins_of fun p hp => ?_, hJ'⟩
      rcases List.mem_cons.mp hp with rfl | hp
      · exact ⟨e2, pP.2.1, pP.2.2.1, pP.2.2.2.1, fun w z => by cases z⟩
      · exact I1.pin p (List.mem_append_right _ hp)
  refine rloop L (by simpa using many) fits ?fin _ 0 _ #[] [] rfl (Nat.zero_le _) ?start rfl (by simp)
  case fin =>
    rintro acc s' u tk ⟨H', c, I', hJ'⟩
    exact ⟨_, _, rfl, .str _, H', (I'.tok tk).pins_of fun p hp => (I'.tok tk).pin p (List.mem_append_right _ (List.mem_cons_of_mem _ hp)), ⟨_, rfl⟩, q H' hJ'⟩
  case start =>
    have keep : ∀ b o, s.heap.get? b = some o → (s.heap.push { cls := .type "list", dict := none, data := .seq #[] 0, slots := #[] }).get? b = some o := fun b o e' => Heap.get?_push_of_some _ e'
    refine ⟨H, 0, (I.kept (t' := s.toks) keep).pins_of fun p hp => ?_, hJ⟩
    rcases List.mem_cons.mp hp with rfl | hp
    · exact ⟨Heap.get?_push_size _ rfl, hn, fun z => Nat.lt_irrefl _ (by have := I.lt; rw [← z] at this; exact this), I.nofs (Nat.le_refl _), fun w z => by cases z⟩
    · have := I.pin p (List.mem_append_right _ hp)
      exact ⟨keep _ _ this.1, this.2⟩
end
end Dz

namespace Dz
open PySem PySem.Spec PyProof.Rows L2
/-! ### {x!r} of a list of tuples of ints, also where lists are being written -/
def rowText (n : List Int) : Str := tupleText (n.map fun i => (toString i : Str))
def rowsText (L : List (List Int)) : Str := listText (L.map rowText)
def tFmtL (K : PySem.W.Frag) (g : List Code) (te : TE) : TE := fun σ H Q => te σ H fun x H1 => ∃ (p : Addr) (as : List Addr) (L : List (List Int)), x = .ref p ∧ H1 p = some (.lst (as.map V.ref)) ∧ as.length = L.length ∧
  (∀ (i : Nat) a n, as[i]? = some a → L[i]? = some n → SqT K H1 a (n.map V.int)) ∧ Clear g p ∧ (∀ a ∈ as, Clear g a) ∧ (∀ n ∈ L, ∀ i ∈ n, i.natAbs.log2 < 1920) ∧ (rowsText L).length ≤ sizeLine ∧ Q (.str (rowsText L)) H1
section
variable {X : Cx}
theorem reprAll_ints {prog : Program} {w : World} {h : Heap} : ∀ {n : List Int} {us : List Value}, Vals (n.map V.int) us → (∀ i ∈ n, i.natAbs.log2 < 1920) → ReprAllK prog w [] h 0 us (n.map fun i => (toString i : Str))
  | [], _, r, _ => by cases r; exact .nil
  | i :: n, _, r, b => by
    cases r with
    | cons r1 r2 =>
      obtain ⟨t, rfl⟩ := r1
      exact .cons (ReprK.of_is (ReprIs.int t (b i List.mem_cons_self)) _ _ _) (reprAll_ints r2 fun j hj => b j (List.mem_cons_of_mem _ hj))
theorem pe_fmtL {k : Nat} {g : List Code} {e : Expr} {te : TE} {pos : Pos} (hr : Room k X.A) (hg : X.A.guards = some g) (he : PE X e te) : PE X (.FormattedValue e 114 none pos) (tFmtL X.K g te) := by
  refine ⟨fun pins s σ H Q I h => ?_⟩
  refine wpAny_FormattedValue_repr (thn (he.run pins s σ H _ I h) fun v s1 hv => ?_)
  obtain ⟨x, H1, I1, r1, p, as, L, rfl, hp, many, each, cp, cas, small, fits, q⟩ := hv
  cases r1
  obtain ⟨z, its, n, rv, hl, e1⟩ := I1.lstM hp
  have eits := vals_refs rv
  subst eits
  have hu := hr.units
  have np : p ∉ as := fun z => by
    obtain ⟨i, hi, ei⟩ := List.mem_iff_getElem.mp z
    have e2 : L[i]? = some L[i] := List.getElem?_eq_getElem (by omega)
    obtain ⟨_, _, ⟨o, h1, h2, _⟩, _⟩ := I1.tuple (each i p _ (by rw [List.getElem?_eq_getElem hi, ei]) e2)
    rw [e1] at h1
    cases h1
    injection h2 with h2
    exact absurd h2 (by decide)
  have done : ∀ (h' : Heap) (u : Tok) (tk : Nat), (∀ b o, s1.heap.get? b = some o → h'.get? b = some o) → wpAny (model X.prog X.w) X.A (formatField (.str (rowsText L) u) Str.empty) (EP X pins σ Q) X.xe { s1 with heap := h', toks := tk } := fun h' u tk hk =>
    have I2 : Inv X pins σ H1 { s1 with heap := h', toks := tk } := I1.kept hk
    wpAny_formatField_str ⟨.str (rowsText L), H1, I2, ⟨u, rfl⟩, q⟩ ⟨.str (rowsText L), H1, I2.tok _, ⟨_, rfl⟩, q⟩ fits
  cases as with
  | nil =>
    cases L with
    | nil => exact wpAny_pyReprObj_list_empty ⟨_, e1, rfl⟩ (by omega) e1 rfl (done s1.heap _ _ fun _ _ e => e)
    | cons n L => cases many
  | cons a0 as =>
    cases L with
    | nil => cases many
    | cons n0 L =>
      refine wpAny_pyReprObj_listK (as := a0 :: as) (h₀ := s1.heap) (d := 1) e1 rfl rfl np (ts := (n0 :: L).map rowText) (by simpa using many.symm) (fun i y hy => ?_) hg (fun b hb => ?_) (by omega) (fun _ _ e => e) (fun h' u tk hk => done h' u tk hk) fits
      · have hy2 : ((a0 :: as).map Value.ref)[i]? = some y := by simpa using hy
        rw [List.getElem?_map] at hy2
        cases ea : (a0 :: as)[i]? with
        | none => rw [ea] at hy2; cases hy2
        | some a =>
          rw [ea] at hy2
          cases hy2
          have hi : i < (n0 :: L).length := by rw [← many]; exact (List.getElem?_eq_some_iff.mp ea).1
          have hn : (n0 :: L)[i]? = some (n0 :: L)[i] := List.getElem?_eq_getElem hi
          refine ⟨rowText (n0 :: L)[i], by rw [List.getElem?_map, hn]; rfl, ?_⟩
          obtain ⟨us, ru, ⟨o, h1, h2, m, h3⟩, _⟩ := I1.tuple (each i a _ ea hn)
          have k := ReprK.tuple (prog := X.prog) (w := X.w) (as := []) (h₀ := s1.heap) (d := 0) h1 h2 h3 (by simp) (by
            have := reprAll_ints (prog := X.prog) (w := X.w) (h := s1.heap) ru (small _ (List.getElem_mem hi))
            simpa using this)
          exact k.more fun b hb => by
            have : b = a := by simpa using hb
            rw [this]; exact List.mem_of_getElem? ea
      · rcases List.mem_cons.mp hb with rfl | hb
        · exact cp
        · exact cas b hb
end
/-! ### repr of a list of instances, on data -/
theorem Dts.objs {G : Ga} {B : Bs} {H : Hp} {C : Addr} : ∀ {vs : List V} {ds : List D}, Dts G B H vs ds → (∀ d ∈ ds, ∃ fs, d = .obj C fs) → ∃ bs : List Addr, vs = bs.map V.ref
  | _, _, .nil, _ => ⟨[], rfl⟩
  | _, _, .cons h hs, k => by
    obtain ⟨fs, rfl⟩ := k _ List.mem_cons_self
    obtain ⟨bs, rfl⟩ := Dts.objs hs fun d hd => k d (List.mem_cons_of_mem _ hd)
    cases h with
    | obj h1 n1 s1 => exact ⟨_ :: bs, rfl⟩
def mReprI (C : Addr) (f : List D → MD) (mA : MA) : ME := fun ρ Q => mA ρ fun ds => match ds with
  | [.lst xs] => xs ≠ [] ∧ (∀ x ∈ xs, ∃ fs, x = .obj C fs) ∧ ∃ ts : List Str, ts.length = xs.length ∧ (listText ts).length ≤ sizeLine ∧ (∀ (i : Nat) x t, xs[i]? = some x → ts[i]? = some t → f [x] fun r => r = .str t) ∧ Q (.str (listText ts))
  | _ => False
theorem evd_reprI {G : Ga} {C : Addr} {f : List D → MD} {E : XK} {tA : TA} {mA : MA} (hA : EvA G tA mA) : EvD G (tCB (rReprI C (spM G.K 1 f) E) tA) (mReprI C f mA) := by
  intro B H σ ρ hS Qd Q hQ hm
  refine hA B H σ ρ hS (fun ds => match ds with
    | [.lst xs] => xs ≠ [] ∧ (∀ x ∈ xs, ∃ fs, x = .obj C fs) ∧ ∃ ts : List Str, ts.length = xs.length ∧ (listText ts).length ≤ sizeLine ∧ (∀ (i : Nat) x t, xs[i]? = some x → ts[i]? = some t → f [x] fun r => r = .str t) ∧ Qd (.str (listText ts))
    | _ => False) _ (fun ds vs H1 q b1 ok1 hd => ?_) hm
  split at q
  · rename_i xs
    obtain ⟨ne, objs, ts, many, fits, each, q⟩ := q
    obtain ⟨v, rfl, hv⟩ := hd.one
    cases hv with
    | lst ha na hds =>
      rename_i a us
      obtain ⟨bs, rfl⟩ := hds.objs objs
      have hl := hds.length
      rw [List.length_map] at hl
      refine ⟨a, bs, ts, fun H' => Bx G.c H1 H' ∧ Ok G B H', rfl, fun z => ne (by rw [z] at hl; exact List.length_eq_zero_iff.mp hl.symm), ⟨Bx.refl _ _, ok1⟩, by omega, fits, fun H' hJ => hJ.1 a _ (fun z => na (ok1.sub a z)) ha, fun i b t eb et H' hJ => ?_, fun H' hJ => hQ _ _ H' q (b1.trans hJ.1) hJ.2 (.str _)⟩
      obtain ⟨x, ex, hx⟩ := hds.getV (i := i) (v := .ref b) (by rw [List.getElem?_map, eb]; rfl)
      have hx' := hx.bx (hJ.1.sub ok1.sub)
      obtain ⟨fs, rfl⟩ := objs x (List.mem_of_getElem? ex)
      refine ⟨?_, G.b, B, _, _, hJ.2, .cons hx' .nil, rfl, each i _ t ex et, fun d v H2 e b2 ok2 hd => ?_⟩
      · cases hx' with
        | obj h1 n1 s1 => exact ⟨_, _, h1⟩
      · subst e
        cases hd
        exact ⟨rfl, hJ.1.trans b2, ok2⟩
  · exact q.elim
/-! ### def __repr__(self): return f"A{self.M()!r}B" -/
theorem rows_tups {G : Ga} {B : Bs} {H : Hp} : ∀ {us : List V} {L : List (List Int)}, Dts G B H us (L.map tupI) → ∃ as : List Addr, us = as.map V.ref ∧ as.length = L.length ∧ (∀ (i : Nat) a n, as[i]? = some a → L[i]? = some n → SqT G.K H a (n.map V.int)) ∧ ∀ a ∈ as, ∃ ws, StT G.K B H a ws
  | _, [], h => by cases h; exact ⟨[], rfl, rfl, fun i a n e => by simp at e, fun a z => by cases z⟩
  | _, n :: L, h => by
    rw [List.map_cons] at h
    cases h with
    | cons d1 d2 =>
      obtain ⟨as, rfl, i1, i2, i3⟩ := rows_tups d2
      unfold tupI at d1
      cases d1 with
      | tup t1 t2 =>
        rename_i a' ws
        have := t2.ints
        subst this
        refine ⟨a' :: as, rfl, by simp [i1], fun i x m e1 e2 => ?_, fun x hx => ?_⟩
        · cases i with
          | zero => simp at e1 e2; subst e1; subst e2; exact t1.sq
          | succ i => exact i2 i x m (by simpa using e1) (by simpa using e2)
        · rcases List.mem_cons.mp hx with rfl | hx
          · exact ⟨_, t1⟩
          · exact i3 x hx
def mReprO (C : Addr) (M : Str) (f : List D → MD) (s1 s2 : Str) (ds : List D) (Q : D → Prop) : Prop := match ds with
  | [.obj C' fs] => C' = C ∧ D.nolFs fs = true ∧ fs.lookup M = none ∧ ∃ L : List (List Int), f [.obj C' fs] (fun r => r = .lst (L.map tupI)) ∧ (∀ n ∈ L, ∀ i ∈ n, i.natAbs.log2 < 1920) ∧ (s1.length + (rowsText L).length + s2.length ≤ sizeLine) ∧ Q (.str (Str.empty ++ s1 ++ rowsText L ++ s2))
  | _ => False
theorem repr_body {K : PySem.W.Frag} {C : Addr} {M s1 s2 : Str} {f : List D → MD} {g : List Code} {vs : List V} {H : Hp} {Q : VK} {E E2 : XK} (okg : GOk K g H) (h : spM K 1 (mReprO C M f s1 s2) vs H Q E) :
    tJs [tC (.str s1), tFmtL K g (tMeth C M (spM K 1 f) [] E2 (tVar 0) tNil), tC (.str s2)] Str.empty (L2.start ["self"] vs) H fun out H1 => Q (.str out) H1 := by
  obtain ⟨b, B, ds, Qd, ok, hd, hl, q, k⟩ := h
  unfold mReprO at q
  split at q
  · rename_i C' fs
    obtain ⟨rfl, nl, nM, L, hf, small, fits, q⟩ := q
    obtain ⟨v, rfl, hv⟩ := hd.one
    cases hv with
    | obj h1 n1 s1' =>
      rename_i a dx gs
      have okL : Ok ⟨K, b⟩ (B.lists H) H := ⟨fun x hx => by
        rcases hx with hx | ⟨us, hx⟩
        · exact ok.al x hx
        · rw [hx]; simp, fun b' c e => by
        obtain ⟨k1, k2, k3⟩ := ok.bg b' c e
        exact ⟨.inl k1, .inl k2, k3⟩⟩
      have hself : Dt ⟨K, b⟩ (B.lists H) H (.ref a) (.obj C' fs) := (Dt.obj h1 n1 s1').keepN (fun x hx => hx) (by simpa only [D.nol] using nl)
      refine ⟨s1, rfl, by rw [strLen_append]; show 0 + _ ≤ _; omega, .ref a, rfl, a, dx, gs, rfl, h1, dfs_none s1' nM, b, B.lists H, [.obj C' fs], _, okL, .cons hself .nil, rfl, hf, fun d v H2 e b2 ok2 hd2 => ?_⟩
      subst e
      cases hd2 with
      | lst hp np hds =>
        rename_i p us
        obtain ⟨as, rfl, many, each, tups⟩ := rows_tups hds
        have clr : ∀ x, x ∉ B.lists H → Clear g x := fun x hx => okg x (.inl fun ws z => hx (.inr ⟨ws, z⟩))
        have ct : ∀ x ∈ as, Clear g x := fun x hx => by
          obtain ⟨ws, z⟩ := tups x hx
          rcases z with ⟨_, z⟩ | z
          · exact clr x z
          · exact okg x (.inr ⟨ws, z⟩)
        refine ⟨p, as, L, rfl, hp, many, each, clr p np, ct, small, by omega, rowsText L, rfl, ?_, s2, rfl, ?_, ?_⟩
        · rw [strLen_append, strLen_append]; show 0 + _ + _ ≤ _; omega
        · rw [strLen_append, strLen_append, strLen_append]; show 0 + _ + _ + _ ≤ _; omega
        · exact k (.str _) _ H2 q b2 (ok2.less (fun x hx => .inl hx) ok.sub) (.str _)
    | _ => exact (show False from q).elim
  · exact q.elim
end Dz

namespace Dz
open PySem PySem.Spec PyProof.Rows L2
/-! ### defs of classes, with defaults or without -/
structure FunE (K : PySem.W.Frag) (x qual : Str) (st : Stmt) (f : Addr) (fd : FuncData) : Prop where
  ex : ∃ (oc : Value) (od : Option Addr) (dV kV doc pm : Value) (an : Option Addr) (cdv ct : Value) (osl : Array (Option Value)),
    fd = PySem.W.fnOf x qual (defArgs st) (defBody st) (defScope st) dV kV doc pm an cdv ct ∧ K.lookup f = some ⟨oc, od, .func fd, osl⟩ ∧ PySem.W.codeIn K cdv qual = true
  kp : PySem.W.keepIn K (.ref f) = true
section
variable {P : Program} {w : World} {K : PySem.W.Frag} {mg : Str → Option Value} {base : Heap} {CX : CXT} {x qual : Str} {st : Stmt} {f : Addr} {fd : FuncData} {N ps : List Str} {k : Nat} {sp : Sp}
theorem funE_mk {oc : Value} {od an : Option Addr} {osl : Array (Option Value)} {dV kV doc pm cdv ct : Value} (l : K.lookup f = some ⟨oc, od, .func (PySem.W.fnOf x qual (defArgs st) (defBody st) (defScope st) dV kV doc pm an cdv ct), osl⟩)
    (c : PySem.W.codeIn K cdv qual = true) (k : PySem.W.keepIn K (.ref f) = true) : FunE K x qual st f (PySem.W.fnOf x qual (defArgs st) (defBody st) (defScope st) dV kV doc pm an cdv ct) := ⟨⟨oc, od, dV, kV, doc, pm, an, cdv, ct, osl, rfl, l, c⟩, k⟩
theorem FunE.all (F : FunE K x qual st f fd)
    (h : ∀ (dV kV doc pm : Value) (an : Option Addr) (cdv ct : Value) (us : List Value), us.length = ps.length → bindArgs (PySem.W.fnOf x qual (defArgs st) (defBody st) (defScope st) dV kV doc pm an cdv ct) ⟨us, []⟩ = pure (ps.zip us)) : Binds K fd ps [] := by
  obtain ⟨oc, od, dV, kV, doc, pm, an, cdv, ct, osl, rfl, lk, hcd⟩ := F.ex
  exact .all (h dV kV doc pm an cdv ct)
theorem fnOkE_of (F : FunE K x qual st f fd) (S : FnScope N ps (defScope st)) (len : ∀ vs H Q E, sp vs H Q E → vs.length = ps.length)
    (hbody : ∀ (cdv : Value) (A : Around) (outer : List Env) (s : Shared) (H : Hp) (vs : List V) (Q : VK) (E : XK), Room k (A.deeper (envOfC qual (defScope st) s.heap.objs.size f cdv)) → sp vs H Q E →
      ∃ t, PSs (cxOf CX P w K mg base N qual (defScope st) f cdv A outer s H E) (defBody st) t ∧ t { nx := fun _ H' => Q .non H', rt := Q } (L2.start N vs) H) : FnOk P w K mg base CX (k + 1) f fd ps sp := by
  obtain ⟨oc, od, dV, kV, doc, pm, an, cdv, ct, osl, rfl, lk, hcd⟩ := F.ex
  exact fn_of lk hcd S len fun A outer s H vs Q E hr h => hbody cdv A outer s H vs Q E hr h
theorem fnWE_of (F : FunE K x qual st f fd) (S : FnScope N ps (defScope st)) (len : ∀ vs H Q E, sp vs H Q E → vs.length = ps.length)
    (hbody : ∀ (cdv : Value) (A : Around) (outer : List Env) (s : Shared) (H : Hp) (vs : List V) (Q : VK) (E : XK) (g : List Code), Room k (A.deeper (envOfC qual (defScope st) s.heap.objs.size f cdv)) → A.guards = some g → GOk K g H → sp vs H Q E →
      ∃ t, PSs (cxOf CX P w K mg base N qual (defScope st) f cdv A outer s H E) (defBody st) t ∧ t { nx := fun _ H' => Q .non H', rt := Q } (L2.start N vs) H) : FnW P w K mg base CX (k + 1) f fd ps sp := by
  obtain ⟨oc, od, dV, kV, doc, pm, an, cdv, ct, osl, rfl, lk, hcd⟩ := F.ex
  refine ⟨len, fun A outer s₀ H args us vs Q E g room quiet okg e0 hb r promise => ?_⟩
  have KX : K.In s₀.heap := e0.mod.kin.keeps fun b o e => (e0.bs b o e).1
  have kinds : ∀ y ∈ ps.zip us, (defScope st).names.lookup y.1 = some .local ∨ ((defScope st).names.lookup y.1 = some .cell ∧ ((cellsFrom (s₀.heap.objs.size + 1) (defScope st).names []).lookup y.1).isSome = true) := by
    rintro ⟨n, v⟩ hy
    rcases S.par n (List.of_mem_zip hy).1 with q | q
    · exact .inl q
    · exact .inr ⟨q, PySem.W.cellsFrom_some _ _ _ (.inl q)⟩
  refine codeAny_call_function room.depth (KX _ _ lk) rfl S.co S.gen rfl (PySem.W.codeRec_of KX hcd) (hb _ _ _ _ (wpAny_newFunctionEnv_cells S.kind kinds fun env he s1 x => ?_))
  subst he
  refine ⟨(e0.mod.nolimit.keeps fun b o e => (e0.bs b o e).1).keeps x.toInCall.keep, codeAny_func ?_⟩
  obtain ⟨t, ht, hq⟩ := hbody cdv A outer s₀ H vs Q E g (room.deeper _) quiet okg promise
  refine wpAny_mono (ht.run [] s1 (L2.start N vs) H _ (inv_start S room.hd e0 (len _ _ _ _ promise) r x) hq) (fun fl s' hs => ?_) fun e s' hs => hs
  cases fl with
  | ret u => obtain ⟨v, σ', H', J, rv, q⟩ := hs; exact ⟨v, H', J.os, J.bare, J.base, J.hok, rv, q⟩
  | next => obtain ⟨σ', H', J, q⟩ := hs; exact ⟨V.non, H', J.os, J.bare, J.base, J.hok, rfl, q⟩
  | brk => obtain ⟨_, _, _, q⟩ := hs; exact q.elim
  | cont => obtain ⟨_, _, _, q⟩ := hs; exact q.elim
end
theorem mt_ext {X : Cx} : MtR X "list.extend" rExtend := mt_extend
theorem mt_rev {X : Cx} : MtR X "list.reverse" rReverse := mt_reverse
theorem mt_clr {X : Cx} : MtR X "list.clear" rClear := mt_clear
theorem sortK {X : Cx} {K : PySem.W.Frag} (h : X.K = K) {d : Nat} {Bd : Int} (hd : 1 ≤ d) : CallR X (.builtin "sorted") (rSortU K d Bd) := by subst h; exact cr_sortT hd
end Dz

namespace Dz
open PySem PySem.Spec PyProof.Rows L2
/-! ### the new mirrors, evaluated -/
theorem e_fld (C : Addr) (f : Str) (m : ME) (ρ : Rho) (Q : D → Prop) : mFld C f m ρ Q = (m ρ fun d => objF C f d Q) := propext Iff.rfl
theorem obj_f (C C' : Addr) (f : Str) (fs : List (Str × D)) (Q : D → Prop) : objF C f (.obj C' fs) Q = (C' = C ∧ someD (fs.lookup f) Q) := propext Iff.rfl
theorem e_meth (C : Addr) (m : Str) (n : Nat) (f : List D → MD) (mo : ME) (mA : MA) (ρ : Rho) (Q : D → Prop) : mMeth C m n f [] mo mA ρ Q = (mo ρ fun o => isObj C m o (mA ρ fun ds => (o :: ds).length = n ∧ f (o :: ds) Q)) := by
  unfold mMeth methF; simp only [List.append_nil]
theorem is_obj (C C' : Addr) (m : Str) (fs : List (Str × D)) (Q : Prop) : isObj C m (.obj C' fs) Q = ((C' = C ∧ fs.lookup m = none) ∧ Q) := propext Iff.rfl
theorem e_make (C : Addr) (n : Nat) (f : Addr → List D → (List (Str × D) → Prop) → Prop) (mA : MA) (ρ : Rho) (Q : D → Prop) : mMake C n f [] mA ρ Q = (mA ρ fun ds => ds.length = n ∧ ∀ a, f a ds fun fs => Q (.obj C fs)) := by
  unfold mMake; simp only [List.append_nil]
theorem e_own1 (C : Addr) (f : List D → MD) (ma : ME) (ρ : Rho) (Q : D → Prop) : mOwn1 C f ma ρ Q = (ma ρ fun x => isC C x (f [x] Q)) := propext Iff.rfl
theorem e_ownIn (C : Addr) (f : List D → MD) (ma mb : ME) (ρ : Rho) (Q : D → Prop) : mOwnIn C f ma mb ρ Q = (ma ρ fun x => mb ρ fun y => isC C y (f [y, x] fun d => asBl d fun b => Q (.bl b))) := propext Iff.rfl
theorem is_c (C C' : Addr) (fs : List (Str × D)) (Q : Prop) : isC C (.obj C' fs) Q = (C' = C ∧ Q) := propext Iff.rfl
theorem e_star (ma : ME) (mA : MA) (ρ : Rho) (Q : List D → Prop) : mStar ma mA ρ Q = (ma ρ fun d => isSq d fun xs => mA ρ fun ys => Q (xs ++ ys)) := propext Iff.rfl
theorem sq_lst (xs : List D) (Q : List D → Prop) : isSq (.lst xs) Q = Q xs := propext Iff.rfl
theorem sq_tup (xs : List D) (Q : List D → Prop) : isSq (.tup xs) Q = Q xs := propext Iff.rfl
theorem isL_lst (xs : List D) (Q : List D → Prop) : isL (.lst xs) Q = Q xs := propext Iff.rfl
theorem e_zip2 (m1 m2 : ME) (ρ : Rho) (Q : List D → Prop) : miZip (mCons m1 (mCons m2 mNil)) ρ Q = (m1 ρ fun x => m2 ρ fun y => match [x, y] with
  | [.lst xs, .lst ys] => Q (zipD xs ys)
  | _ => False) := propext Iff.rfl
theorem e_enum (m1 : ME) (ρ : Rho) (Q : List D → Prop) : miEnum (mCons m1 mNil) ρ Q = (m1 ρ fun x => match [x] with
  | [.lst xs] => Q (enumD 0 xs)
  | _ => False) := propext Iff.rfl
theorem e_sortSet (ma : ME) (ρ : Rho) (Q : D → Prop) : mSortSet ma ρ Q = (ma ρ fun d => isL d fun ds => someD (intsOf ds) fun ns => ns.length < 60 ∧ ∀ ms : List Int, ms.Pairwise (· < ·) → (∀ k, k ∈ ms ↔ k ∈ ns) → Q (.lst (ms.map D.int))) := propext Iff.rfl
theorem own_own (ds : List D) (Q : List D → Prop) : ownD (some (.own ds)) Q = Q ds := propext Iff.rfl
theorem e_sown (i : Nat) (m : MA) (n : Rho → Prop) (r : D → Prop) (k c : Rho → Prop) (ρ : Rho) : sOwn i m ⟨n, r, k, c⟩ ρ = (m ρ fun ds => ds.length ≤ sizeLine ∧ n (ρ.set i (.own ds))) := propext Iff.rfl
theorem e_sapp (i : Nat) (m : ME) (n : Rho → Prop) (r : D → Prop) (k c : Rho → Prop) (ρ : Rho) : sApp i m ⟨n, r, k, c⟩ ρ = ownD ρ[i]? fun ds => m ρ fun d => ds.length < sizeLine ∧ n (ρ.set i (.own (ds ++ [d]))) := propext Iff.rfl
theorem e_sput (i : Nat) (me mk : ME) (n : Rho → Prop) (r : D → Prop) (k c : Rho → Prop) (ρ : Rho) : sPut i me mk ⟨n, r, k, c⟩ ρ = ownD ρ[i]? fun ds => me ρ fun d => mk ρ fun z => asInt z fun z => putM ⟨n, r, k, c⟩ ρ i ds d z := propext Iff.rfl
theorem e_sins (i : Nat) (mk me : ME) (n : Rho → Prop) (r : D → Prop) (k c : Rho → Prop) (ρ : Rho) : sIns i mk me ⟨n, r, k, c⟩ ρ = ownD ρ[i]? fun ds => mk ρ fun y => me ρ fun d => asInt y fun z => (ds.length < sizeLine ∧ 0 ≤ z ∧ z < 2 ^ 63) ∧ n (ρ.set i (.own (ds.take z.toNat ++ [d] ++ ds.drop z.toNat))) := propext Iff.rfl
theorem e_sext (i : Nat) (m : ME) (n : Rho → Prop) (r : D → Prop) (k c : Rho → Prop) (ρ : Rho) : sExt i m ⟨n, r, k, c⟩ ρ = ownD ρ[i]? fun ds => m ρ fun d => isL d fun es => ds.length + es.length ≤ sizeLine ∧ n (ρ.set i (.own (ds ++ es))) := propext Iff.rfl
theorem e_sfrz (i : Nat) (m : MS) (n : Rho → Prop) (r : D → Prop) (k c : Rho → Prop) (ρ : Rho) : sFrz i m ⟨n, r, k, c⟩ ρ = ownD ρ[i]? fun ds => m ⟨n, r, k, c⟩ (ρ.set i (.val (.lst ds))) := propext Iff.rfl
theorem e_ixo (i : Nat) (mk : ME) (ρ : Rho) (Q : D → Prop) : mIxO i mk ρ Q = ownD ρ[i]? fun ds => mk ρ fun y => asInt y fun j => someD (atI ds j) Q := propext Iff.rfl
theorem e_truo (i : Nat) (ρ : Rho) (Q : Bool → Prop) : mTruO i ρ Q = ownD ρ[i]? fun ds => Q (!ds.isEmpty) := propext Iff.rfl
theorem slf_slf (a C : Addr) (fs : List (Str × D)) (Q : Addr → Addr → List (Str × D) → Prop) : slfD (some (.slf a C fs)) Q = Q a C fs := propext Iff.rfl
theorem e_sslf (C : Addr) (f : Str) (m : ME) (n : Rho → Prop) (r : D → Prop) (k c : Rho → Prop) (ρ : Rho) : sSlf C f m ⟨n, r, k, c⟩ ρ = (m ρ fun d => slfD ρ[0]? fun a C' fs => (C' = C ∧ fs.length < 1000) ∧ n (ρ.set 0 (.slf a C' (putFd f d fs)))) := propext Iff.rfl
theorem e_mslf (C : Addr) (f : Str) (ρ : Rho) (Q : D → Prop) : mSlf C f ρ Q = slfD ρ[0]? fun _ C' fs => C' = C ∧ someD (fs.lookup f) Q := propext Iff.rfl
theorem e_runI2 (ms : MS) (C a : Addr) (d : D) (Qf : List (Str × D) → Prop) : runI 2 ms C a [d] Qf = ms { nx := fun ρ => slfD ρ[0]? fun a' C' fs => (a' = a ∧ C' = C) ∧ Qf fs, rt := fun _ => False } [.slf a C [], .val d] := propext Iff.rfl
theorem max2 (i j : Int) (Q : D → Prop) : maxF [.int i, .int j] Q = Q (.int (if j > i then j else i)) := propext Iff.rfl
theorem min2 (i j : Int) (Q : D → Prop) : minF [.int i, .int j] Q = Q (.int (if j < i then j else i)) := propext Iff.rfl
end Dz

namespace Dz
open PySem PySem.Spec PyProof.Rows L2
/-! ### isinstance(x, (A, B)) -/
def tysOf : List D → Option (List String)
  | [] => some []
  | .ty n :: r => (tysOf r).map (n :: ·)
  | _ => none
def kitL (m : String) : List String → Option Bool
  | [] => some false
  | n :: r => match kitB m n with
    | some true => some true
    | some false => kitL m r
    | none => none
theorem tys_inv {G : Ga} {B : Bs} {H : Hp} : ∀ {vs : List V} {ds : List D} {ns : List String}, Dts G B H vs ds → tysOf ds = some ns → Paired ClsV vs (ns.map Value.type)
  | _, _, ns, .nil, e => by cases e; exact .nil
  | _, _, ns, .cons h hs, e => by
    cases h with
    | ty n =>
      unfold tysOf at e
      rw [Option.map_eq_some_iff] at e
      obtain ⟨r, e1, rfl⟩ := e
      exact .cons (.ty n) (tys_inv hs e1)
    | _ => cases e
theorem kitL_any {K : PySem.W.Frag} {m : String} : ∀ {ns : List String} {b : Bool}, kitL m ns = some b → PySem.W.kitAny K (.type m) (ns.map Value.type) = some b
  | [], b, e => by cases e; exact kitAny_nil
  | n :: ns, b, e => by
    unfold kitL at e
    cases z : kitB m n with
    | none => rw [z] at e; cases e
    | some y =>
      rw [z] at e
      cases y with
      | true => cases e; exact kitAny_cons (kit_ty z) (fun y => by cases y) (fun _ => rfl)
      | false => exact kitAny_cons (kit_ty z) (fun _ => kitL_any e) (fun y => by cases y)
def mIsiT (ma : ME) (mA : MA) : ME := fun ρ Q => ma ρ fun d => mA ρ fun ds => ds.length ≤ sizeLine ∧ someD (tyN d) fun m => someD (tysOf ds) fun ns => someD (kitL m ns) fun b => Q (.bl b)
theorem evd_isiT {G : Ga} {ta : TE} {ma : ME} {tA : TA} {mA : MA} (ha : EvD G ta ma) (hA : EvA G tA mA) : EvD G (tCB (rIsiT G.K) (tCons ta (tCons (tTup tA) tNil))) (mIsiT ma mA) := by
  intro B H σ ρ hS Qd Q hQ hm
  refine ha B H σ ρ hS (fun d => mA ρ fun ds => ds.length ≤ sizeLine ∧ someD (tyN d) fun m => someD (tysOf ds) fun ns => someD (kitL m ns) fun b => Qd (.bl b)) _ (fun d v H1 q b1 ok1 hd => ?_) hm
  refine hA B H1 σ ρ (hS.bx b1 ok1) (fun ds => ds.length ≤ sizeLine ∧ someD (tyN d) fun m => someD (tysOf ds) fun ns => someD (kitL m ns) fun b => Qd (.bl b)) _ (fun ds vs H2 q b2 ok2 hds => ?_) q
  obtain ⟨hl, q⟩ := q
  obtain ⟨m, e1, q⟩ := someD_inv q
  obtain ⟨ns, e2, q⟩ := someD_inv q
  obtain ⟨b, e3, q⟩ := someD_inv q
  refine ⟨by rw [hds.length]; exact hl, fun p hp => ?_⟩
  have k3 : Bx .no H2 (upd H2 p (.tup vs)) := Bx.new hp
  exact ⟨v, p, vs, _, _, b, rfl, upd_same, tys_inv hds e2, tyX_of ((hd.bx (b2.sub ok1.sub)).bx k3.nil) e1, kitL_any e3, hQ _ _ _ q ((b1.trans b2).trans k3.nil) (ok2.ex k3) (.bl b)⟩
theorem isiTK {X : Cx} {K : PySem.W.Frag} (h : X.K = K) : CallR X (.builtin "isinstance") (rIsiT K) := by subst h; exact call_isiT
theorem e_isiT (ma : ME) (mA : MA) (ρ : Rho) (Q : D → Prop) : mIsiT ma mA ρ Q = (ma ρ fun d => mA ρ fun ds => ds.length ≤ sizeLine ∧ someD (tyN d) fun m => someD (tysOf ds) fun ns => someD (kitL m ns) fun b => Q (.bl b)) := propext Iff.rfl
theorem isi_lst_lt (xs : List D) (P : Bool → Prop) : (someD (tyN (.lst xs)) fun m => someD (tysOf [.ty "list", .ty "tuple"]) fun ns => someD (kitL m ns) P) = P true := by
  have : kitL "list" ["list", "tuple"] = some true := by decide +kernel
  show (someD (kitL "list" ["list", "tuple"]) P) = _
  rw [this]; rfl
theorem isi_tup_lt (xs : List D) (P : Bool → Prop) : (someD (tyN (.tup xs)) fun m => someD (tysOf [.ty "list", .ty "tuple"]) fun ns => someD (kitL m ns) P) = P true := by
  have : kitL "tuple" ["list", "tuple"] = some true := by decide +kernel
  show (someD (kitL "tuple" ["list", "tuple"]) P) = _
  rw [this]; rfl
end Dz

namespace K23
open PySem PySem.Spec PyProof.Rows L2 Dz
def topS (i : Nat) : Stmt := PySem.Challenge.pw_vouchchains_k23_earliest_beyond_turn.main.body.getD i (.Pass ⟨0, 0, 0, 0⟩)
structure Cs where
  Days : Addr

abbrev s_check : Stmt := topS 5
abbrev N_check : List Str := ["answers", "place", "answer"]
theorem sc_check : FnScope N_check ["answers"] (defScope s_check) := ⟨rfl, rfl, rfl, by decide +kernel, rfl, by decide +kernel, by decide +kernel⟩

abbrev s_is_integer : Stmt := topS 8
abbrev N_is_integer : List Str := ["thing"]
theorem sc_is_integer : FnScope N_is_integer ["thing"] (defScope s_is_integer) := ⟨rfl, rfl, rfl, by decide +kernel, rfl, by decide +kernel, by decide +kernel⟩

abbrev s__fewest : Stmt := topS 14
abbrev N__fewest : List Str := ["spans", "kept", "first", "last"]
theorem sc__fewest : FnScope N__fewest ["spans"] (defScope s__fewest) := ⟨rfl, rfl, rfl, by decide +kernel, rfl, by decide +kernel, by decide +kernel⟩

abbrev s__law_bag : Stmt := topS 16
abbrev N__law_bag : List Str := ["_law_script", "_law_cell"]
theorem sc__law_bag : FnScope N__law_bag ["_law_script"] (defScope s__law_bag) := ⟨rfl, rfl, rfl, by decide +kernel, rfl, by decide +kernel, by decide +kernel⟩

abbrev s__law_take : Stmt := topS 17
abbrev N__law_take : List Str := ["_law_bag_here", "_law_many", "_law_cell", "_law_more", "_law_drawn", "_law_begin", "_law_second"]
theorem sc__law_take : FnScope N__law_take ["_law_bag_here", "_law_many"] (defScope s__law_take) := ⟨rfl, rfl, rfl, by decide +kernel, rfl, by decide +kernel, by decide +kernel⟩

abbrev s__law_has_day : Stmt := topS 20
abbrev N__law_has_day : List Str := ["_law_spans", "_law_day", "_law_end", "_law_begin"]
theorem sc__law_has_day : FnScope N__law_has_day ["_law_spans", "_law_day"] (defScope s__law_has_day) := ⟨rfl, rfl, rfl, by decide +kernel, rfl, by decide +kernel, by decide +kernel⟩

abbrev s__law_points : Stmt := topS 21
abbrev N__law_points : List Str := ["_law_several", "_law_found", "_law_spans", "_law_begin", "_law_end", "_law_day"]
theorem sc__law_points : FnScope N__law_points ["_law_several"] (defScope s__law_points) := ⟨rfl, rfl, rfl, by decide +kernel, rfl, by decide +kernel, by decide +kernel⟩

abbrev s_Days_spans : Stmt := inClass (topS 11) 1
abbrev N_Days_spans : List Str := ["self"]
theorem sc_Days_spans : FnScope N_Days_spans ["self"] (defScope s_Days_spans) := ⟨rfl, rfl, rfl, by decide +kernel, rfl, by decide +kernel, by decide +kernel⟩

abbrev s_Days_earliest : Stmt := inClass (topS 11) 2
abbrev N_Days_earliest : List Str := ["self"]
theorem sc_Days_earliest : FnScope N_Days_earliest ["self"] (defScope s_Days_earliest) := ⟨rfl, rfl, rfl, by decide +kernel, rfl, by decide +kernel, by decide +kernel⟩

abbrev s_Days_beyond : Stmt := inClass (topS 11) 3
abbrev N_Days_beyond : List Str := ["self", "day", "first", "last"]
theorem sc_Days_beyond : FnScope N_Days_beyond ["self", "day"] (defScope s_Days_beyond) := ⟨rfl, rfl, rfl, by decide +kernel, rfl, by decide +kernel, by decide +kernel⟩

abbrev s_Days___contains__ : Stmt := inClass (topS 11) 11
abbrev N_Days___contains__ : List Str := ["self", "day", "first", "last"]
theorem sc_Days___contains__ : FnScope N_Days___contains__ ["self", "day"] (defScope s_Days___contains__) := ⟨rfl, rfl, rfl, by decide +kernel, rfl, by decide +kernel, by decide +kernel⟩

abbrev s_is_day : Stmt := topS 9
abbrev N_is_day : List Str := ["thing"]
theorem sc_is_day : FnScope N_is_day ["thing"] (defScope s_is_day) := ⟨rfl, rfl, rfl, by decide +kernel, rfl, by decide +kernel, by decide +kernel⟩

abbrev s__law_mixed : Stmt := topS 18
abbrev N__law_mixed : List Str := ["_law_bag_here", "_law_things", "_law_found", "_law_thing"]
theorem sc__law_mixed : FnScope N__law_mixed ["_law_bag_here", "_law_things"] (defScope s__law_mixed) := ⟨rfl, rfl, rfl, by decide +kernel, rfl, by decide +kernel, by decide +kernel⟩

abbrev s__law_drawn_spans : Stmt := topS 19
abbrev N__law_drawn_spans : List Str := ["_law_bag_here", "_law_many", "_law_found", "_law_k", "_law_great", "_law_begin", "_law_end"]
theorem sc__law_drawn_spans : FnScope N__law_drawn_spans ["_law_bag_here", "_law_many"] (defScope s__law_drawn_spans) := ⟨rfl, rfl, rfl, by decide +kernel, rfl, by decide +kernel, by decide +kernel⟩

abbrev s__law_later : Stmt := topS 22
abbrev N__law_later : List Str := ["_law_spans", "_law_points_here", "_law_day", "_law_wanted", "_law_found", "_law_one"]
theorem sc__law_later : FnScope N__law_later ["_law_spans", "_law_points_here", "_law_day", "_law_wanted"] (defScope s__law_later) := ⟨rfl, rfl, rfl, by decide +kernel, rfl, by decide +kernel, by decide +kernel⟩

abbrev s_Days___repr__ : Stmt := inClass (topS 11) 14
abbrev N_Days___repr__ : List Str := ["self"]
theorem sc_Days___repr__ : FnScope N_Days___repr__ ["self"] (defScope s_Days___repr__) := ⟨rfl, rfl, rfl, by decide +kernel, rfl, by decide +kernel, by decide +kernel⟩

abbrev s__is_span : Stmt := topS 13
abbrev N__is_span : List Str := ["thing"]
theorem sc__is_span : FnScope N__is_span ["thing"] (defScope s__is_span) := ⟨rfl, rfl, rfl, by decide +kernel, rfl, by decide +kernel, by decide +kernel⟩

abbrev s__are_spans : Stmt := topS 12
abbrev N__are_spans : List Str := ["thing", "span"]
theorem sc__are_spans : FnScope N__are_spans ["thing"] (defScope s__are_spans) := ⟨rfl, rfl, rfl, by decide +kernel, rfl, by decide +kernel, by decide +kernel⟩

abbrev s_Days___init__ : Stmt := inClass (topS 11) 0
abbrev N_Days___init__ : List Str := ["self", "spans"]
theorem sc_Days___init__ : FnScope N_Days___init__ ["self", "spans"] (defScope s_Days___init__) := ⟨rfl, rfl, rfl, by decide +kernel, rfl, by decide +kernel, by decide +kernel⟩

abbrev s_Days___invert__ : Stmt := inClass (topS 11) 10
abbrev N_Days___invert__ : List Str := ["self", "firsts", "first", "last", "lasts"]
theorem sc_Days___invert__ : FnScope N_Days___invert__ ["self"] (defScope s_Days___invert__) := ⟨rfl, rfl, rfl, by decide +kernel, rfl, by decide +kernel, by decide +kernel⟩

abbrev s_Days_turn : Stmt := inClass (topS 11) 4
abbrev N_Days_turn : List Str := ["self", "day"]
theorem sc_Days_turn : FnScope N_Days_turn ["self", "day"] (defScope s_Days_turn) := ⟨rfl, rfl, rfl, by decide +kernel, rfl, by decide +kernel, by decide +kernel⟩

abbrev s_law : Stmt := topS 23
abbrev N_law : List Str := ["_law_script", "_law_bag_here", "_law_go", "_law_several", "_law_k", "_law_some", "_law_spans", "_law_day", "_law_at", "_law_here", "_law_points_here", "_law_due", "_law_shown", "_law_again", "_law_days", "_law_first", "_law_spots", "_law_point"]
theorem sc_law : FnScope N_law ["_law_script"] (defScope s_law) := ⟨rfl, rfl, rfl, by decide +kernel, rfl, by decide +kernel, by decide +kernel⟩

def m_check (c : Cs) : List D → MD := runM 3 (sFor (miEnum (mCons (mVar 0) mNil)) (gvTup 2 (gvCons (gvName 1) (gvCons (gvName 2) gvNil))) (sIf (mNot (mTru (mVar 2))) sNever sNext))

def m_is_integer (c : Cs) : List D → MD := runM 1 (sRet (mAndV (mCall isiF (mCons (mVar 0) (mCons (mC (.ty "int")) mNil))) (mNotV (mCall isiF (mCons (mVar 0) (mCons (mC (.ty "bool")) mNil))))))

def m__fewest (c : Cs) : List D → MD := runM 4 (sSeq (sOwn 1 mNil)
    (sSeq (sFor (miList (mCall (sortF 2 1000000001) (mCons (mVar 0) mNil))) (gvTup 2 (gvCons (gvName 2) (gvCons (gvName 3) gvNil))) (sSeq (sIf (mTest (mBin gtF (mVar 2) (mVar 3))) sCont sNext)
    (sIf (mAnd (mTruO 1) (mTest (mBin leF (mVar 2) (mBin addF (mBin ixF (mIxO 1 (mUn negF (mC (.int 1)))) (mC (.int 1))) (mC (.int 1)))))) (sPut 1 (mTup (mCons (mBin ixF (mIxO 1 (mUn negF (mC (.int 1)))) (mC (.int 0))) (mCons (mCall maxF (mCons (mVar 3) (mCons (mBin ixF (mIxO 1 (mUn negF (mC (.int 1)))) (mC (.int 1))) mNil))) mNil))) (mUn negF (mC (.int 1)))) (sApp 1 (mTup (mCons (mVar 2) (mCons (mVar 3) mNil)))))))
    (sFrz 1 (sRet (mCall tupF (mCons (mVar 1) mNil))))))

abbrev m__law_take : List D → MD := takeM

def m__law_has_day (c : Cs) : List D → MD := runM 4 (sRet (mBin neF (mLc (miList (mVar 0)) (gvTup 2 (gvCons (gvName 3) (gvCons (gvName 2) gvNil))) (mTest (mChain leF leF (mVar 3) (mVar 1) (mVar 2))) (mC (.int 1)) [3, 2]) (mLst mNil)))

def m__law_points (c : Cs) : List D → MD := runM 6 (sSeq (sOwn 1 (mCons (mC (.int 0)) mNil))
    (sSeq (sFor (miList (mVar 0)) (gvName 2) (sFor (miList (mVar 2)) (gvTup 2 (gvCons (gvName 3) (gvCons (gvName 4) gvNil))) (sExt 1 (mLst (mCons (mVar 3) (mCons (mBin addF (mVar 4) (mC (.int 1))) mNil))))))
    (sFrz 1 (sRet (mSortSet (mLc (miList (mVar 1)) (gvName 5) (mTest (mBin leF (mVar 5) (mBin powF (mC (.int 10)) (mC (.int 9))))) (mVar 5) [5]))))))

def m_Days_spans (c : Cs) : List D → MD := runM 1 (sRet (mCall lstF (mCons (mFld c.Days "_spans" (mVar 0)) mNil)))

def m_Days_earliest (c : Cs) : List D → MD := runM 1 (sRet (mIf (mTru (mFld c.Days "_spans" (mVar 0))) (mBin ixF (mBin ixF (mFld c.Days "_spans" (mVar 0)) (mC (.int 0))) (mC (.int 0))) (mC .non)))

def m_Days_beyond (c : Cs) : List D → MD := runM 4 (sSeq (sFor (miTup (mFld c.Days "_spans" (mVar 0))) (gvTup 2 (gvCons (gvName 2) (gvCons (gvName 3) gvNil))) (sIf (mTest (mBin ltF (mVar 1) (mVar 3))) (sRet (mCall maxF (mCons (mVar 2) (mCons (mBin addF (mVar 1) (mC (.int 1))) mNil)))) sNext))
    (sRet (mC .non)))

def m_Days___contains__ (c : Cs) : List D → MD := runM 4 (sRet (mCall anyF (mCons (mLc (miTup (mFld c.Days "_spans" (mVar 0))) (gvTup 2 (gvCons (gvName 2) (gvCons (gvName 3) gvNil))) mYes (mChain leF leF (mVar 2) (mVar 1) (mVar 3)) [2, 3]) mNil)))

def m_is_day (c : Cs) : List D → MD := runM 1 (sRet (mAndV (mFn 1 (m_is_integer c) [] (mCons (mVar 0) mNil)) (mChain leF leF (mC (.int 0)) (mVar 0) (mC (.int 1000000000)))))

def m__law_mixed (c : Cs) : List D → MD := runM 4 (sSeq (sOwn 2 mNil)
    (sSeq (sFor (miList (mVar 1)) (gvName 3) (sIns 2 (mFn 2 takeM [] (mCons (mVar 0) (mCons (mBin addF (mLenO 2) (mC (.int 1))) mNil))) (mVar 3)))
    (sFrz 2 (sRet (mVar 2)))))

def m__law_drawn_spans (c : Cs) : List D → MD := runM 7 (sSeq (sOwn 2 mNil)
    (sSeq (sFor (miRng1 (mCons (mFn 2 takeM [] (mCons (mVar 0) (mCons (mBin addF (mVar 1) (mC (.int 1))) mNil))) mNil)) (gvName 3) (sSeq (sAsg (mFn 2 takeM [] (mCons (mVar 0) (mCons (mBin addF (mBin powF (mC (.int 10)) (mC (.int 9))) (mC (.int 1))) mNil))) (gvName 4))
    (sSeq (sAsg (mBin ixF (mLst (mCons (mFn 2 takeM [] (mCons (mVar 0) (mCons (mC (.int 30)) mNil))) (mCons (mFn 2 takeM [] (mCons (mVar 0) (mCons (mC (.int 30)) mNil))) (mCons (mVar 4) (mCons (mBin subF (mBin powF (mC (.int 10)) (mC (.int 9))) (mFn 2 takeM [] (mCons (mVar 0) (mCons (mC (.int 9)) mNil)))) (mCons (mC (.int 0)) mNil)))))) (mFn 2 takeM [] (mCons (mVar 0) (mCons (mC (.int 5)) mNil)))) (gvName 5))
    (sSeq (sAsg (mBin ixF (mLst (mCons (mBin addF (mVar 5) (mFn 2 takeM [] (mCons (mVar 0) (mCons (mC (.int 6)) mNil)))) (mCons (mVar 5) (mCons (mBin subF (mVar 5) (mFn 2 takeM [] (mCons (mVar 0) (mCons (mC (.int 3)) mNil)))) (mCons (mBin powF (mC (.int 10)) (mC (.int 9))) (mCons (mVar 4) mNil)))))) (mFn 2 takeM [] (mCons (mVar 0) (mCons (mC (.int 5)) mNil)))) (gvName 6))
    (sApp 2 (mTup (mCons (mVar 5) (mCons (mCall maxF (mCons (mC (.int 0)) (mCons (mCall minF (mCons (mBin powF (mC (.int 10)) (mC (.int 9))) (mCons (mVar 6) mNil))) mNil))) mNil))))))))
    (sFrz 2 (sRet (mVar 2)))))

def m__law_later (c : Cs) : List D → MD := runM 6 (sSeq (sAsg (mLc (miList (mBin addF (mLst (mCons (mBin addF (mVar 2) (mC (.int 1))) mNil)) (mVar 1))) (gvName 5) (mAnd (mTest (mChain ltF leF (mVar 2) (mVar 5) (mBin powF (mC (.int 10)) (mC (.int 9))))) (mTest (mBin eqG (mFn 2 (m__law_has_day c) [] (mCons (mVar 0) (mCons (mVar 5) mNil))) (mVar 3)))) (mVar 5) [5]) (gvName 4))
    (sRet (mIf (mTest (mBin neF (mVar 4) (mLst mNil))) (mCall minLF (mCons (mVar 4) mNil)) (mC .non))))

def m_Days___repr__ (c : Cs) : List D → MD := mReprO c.Days "spans" (m_Days_spans c) (Str.ofString "Days(") (Str.ofString ")")

def m__is_span (c : Cs) : List D → MD := runM 1 (sRet (mAndV (mCall isiF (mCons (mVar 0) (mCons (mC (.ty "tuple")) mNil))) (mAndV (mBin eqG (mCall lenF (mCons (mVar 0) mNil)) (mC (.int 2))) (mAndV (mFn 1 (m_is_day c) [] (mCons (mBin ixF (mVar 0) (mC (.int 0))) mNil)) (mFn 1 (m_is_day c) [] (mCons (mBin ixF (mVar 0) (mC (.int 1))) mNil))))))

def m__are_spans (c : Cs) : List D → MD := runM 2 (sRet (mAndV (mIsiT (mVar 0) (mCons (mC (.ty "list")) (mCons (mC (.ty "tuple")) mNil))) (mCall allF (mCons (mLc (miList (mVar 0)) (gvName 1) mYes (mFn 1 (m__is_span c) [] (mCons (mVar 1) mNil)) [1]) mNil))))

def m_Days___init__ (c : Cs) : Addr → List D → (List (Str × D) → Prop) → Prop := runI 2 (sSeq (sDrop (mFn 1 (m_check c) [] (mCons (mLst (mCons (mFn 1 (m__are_spans c) [] (mCons (mVar 1) mNil)) mNil)) mNil)))
    (sSlf c.Days "_spans" (mFn 1 (m__fewest c) [] (mCons (mVar 1) mNil)))) c.Days

def m_Days___invert__ (c : Cs) : List D → MD := runM 5 (sSeq (sAsg (mLst (mCons (mC (.int 0)) (mStar (mLc (miTup (mFld c.Days "_spans" (mVar 0))) (gvTup 2 (gvCons (gvName 2) (gvCons (gvName 3) gvNil))) mYes (mBin addF (mVar 3) (mC (.int 1))) [2, 3]) mNil))) (gvName 1))
    (sSeq (sAsg (mLst (mStar (mLc (miTup (mFld c.Days "_spans" (mVar 0))) (gvTup 2 (gvCons (gvName 2) (gvCons (gvName 3) gvNil))) mYes (mBin subF (mVar 2) (mC (.int 1))) [2, 3]) (mCons (mC (.int 1000000000)) mNil))) (gvName 4))
    (sRet (mMake c.Days 1 (m_Days___init__ c) [] (mCons (mLc (miZip (mCons (mVar 1) (mCons (mVar 4) mNil))) (gvTup 2 (gvCons (gvName 2) (gvCons (gvName 3) gvNil))) (mTest (mBin leF (mVar 2) (mVar 3))) (mTup (mCons (mVar 2) (mCons (mVar 3) mNil))) [2, 3]) mNil)))))

def m_Days_turn (c : Cs) : List D → MD := runM 2 (sRet (mMeth c.Days "beyond" 2 (m_Days_beyond c) [] (mIf (mTest (mOwnIn c.Days (m_Days___contains__ c) (mVar 1) (mVar 0))) (mOwn1 c.Days (m_Days___invert__ c) (mVar 0)) (mVar 0)) (mCons (mVar 1) mNil)))

structure Txt (K : PySem.W.Frag) (mg : Str → Option Value) where
  cs : Cs
  f_check : Addr
  d_check : FuncData
  F_check : Fun K "check" "check" s_check f_check d_check
  b_check : Binds K d_check ["answers"] []
  g_check : mg "check" = some (.ref f_check)
  f_is_integer : Addr
  d_is_integer : FuncData
  F_is_integer : Fun K "is_integer" "is_integer" s_is_integer f_is_integer d_is_integer
  b_is_integer : Binds K d_is_integer ["thing"] []
  g_is_integer : mg "is_integer" = some (.ref f_is_integer)
  f_is_day : Addr
  d_is_day : FuncData
  F_is_day : Fun K "is_day" "is_day" s_is_day f_is_day d_is_day
  b_is_day : Binds K d_is_day ["thing"] []
  g_is_day : mg "is_day" = some (.ref f_is_day)
  f__are_spans : Addr
  d__are_spans : FuncData
  F__are_spans : Fun K "_are_spans" "_are_spans" s__are_spans f__are_spans d__are_spans
  b__are_spans : Binds K d__are_spans ["thing"] []
  g__are_spans : mg "_are_spans" = some (.ref f__are_spans)
  f__is_span : Addr
  d__is_span : FuncData
  F__is_span : Fun K "_is_span" "_is_span" s__is_span f__is_span d__is_span
  b__is_span : Binds K d__is_span ["thing"] []
  g__is_span : mg "_is_span" = some (.ref f__is_span)
  f__fewest : Addr
  d__fewest : FuncData
  F__fewest : Fun K "_fewest" "_fewest" s__fewest f__fewest d__fewest
  b__fewest : Binds K d__fewest ["spans"] []
  g__fewest : mg "_fewest" = some (.ref f__fewest)
  f__law_bag : Addr
  d__law_bag : FuncData
  F__law_bag : Fun K "_law_bag" "_law_bag" s__law_bag f__law_bag d__law_bag
  b__law_bag : Binds K d__law_bag ["_law_script"] []
  g__law_bag : mg "_law_bag" = some (.ref f__law_bag)
  f__law_take : Addr
  d__law_take : FuncData
  F__law_take : Fun K "_law_take" "_law_take" s__law_take f__law_take d__law_take
  b__law_take : Binds K d__law_take ["_law_bag_here", "_law_many"] []
  g__law_take : mg "_law_take" = some (.ref f__law_take)
  f__law_mixed : Addr
  d__law_mixed : FuncData
  F__law_mixed : Fun K "_law_mixed" "_law_mixed" s__law_mixed f__law_mixed d__law_mixed
  b__law_mixed : Binds K d__law_mixed ["_law_bag_here", "_law_things"] []
  g__law_mixed : mg "_law_mixed" = some (.ref f__law_mixed)
  f__law_drawn_spans : Addr
  d__law_drawn_spans : FuncData
  F__law_drawn_spans : Fun K "_law_drawn_spans" "_law_drawn_spans" s__law_drawn_spans f__law_drawn_spans d__law_drawn_spans
  b__law_drawn_spans : Binds K d__law_drawn_spans ["_law_bag_here", "_law_many"] []
  g__law_drawn_spans : mg "_law_drawn_spans" = some (.ref f__law_drawn_spans)
  f__law_has_day : Addr
  d__law_has_day : FuncData
  F__law_has_day : Fun K "_law_has_day" "_law_has_day" s__law_has_day f__law_has_day d__law_has_day
  b__law_has_day : Binds K d__law_has_day ["_law_spans", "_law_day"] []
  g__law_has_day : mg "_law_has_day" = some (.ref f__law_has_day)
  f__law_points : Addr
  d__law_points : FuncData
  F__law_points : Fun K "_law_points" "_law_points" s__law_points f__law_points d__law_points
  b__law_points : Binds K d__law_points ["_law_several"] []
  g__law_points : mg "_law_points" = some (.ref f__law_points)
  f__law_later : Addr
  d__law_later : FuncData
  F__law_later : Fun K "_law_later" "_law_later" s__law_later f__law_later d__law_later
  b__law_later : Binds K d__law_later ["_law_spans", "_law_points_here", "_law_day", "_law_wanted"] []
  g__law_later : mg "_law_later" = some (.ref f__law_later)
  f_law : Addr
  d_law : FuncData
  F_law : Fun K "law" "law" s_law f_law d_law
  b_law : Binds K d_law ["_law_script"] []
  g_law : mg "law" = some (.ref f_law)
  f_Days___init__ : Addr
  d_Days___init__ : FuncData
  F_Days___init__ : FunE K "__init__" "Days.__init__" s_Days___init__ f_Days___init__ d_Days___init__
  b_Days___init__ : Binds K d_Days___init__ ["self", "spans"] []
  at_Days___init__ : PySem.W.findIn K (.ref cs.Days) "__init__" = some (some (.ref f_Days___init__))
  fn_Days___init__ : PySem.W.isFn K (.ref f_Days___init__) = true
  f_Days_spans : Addr
  d_Days_spans : FuncData
  F_Days_spans : FunE K "spans" "Days.spans" s_Days_spans f_Days_spans d_Days_spans
  b_Days_spans : Binds K d_Days_spans ["self"] []
  at_Days_spans : PySem.W.findIn K (.ref cs.Days) "spans" = some (some (.ref f_Days_spans))
  fn_Days_spans : PySem.W.isFn K (.ref f_Days_spans) = true
  f_Days_earliest : Addr
  d_Days_earliest : FuncData
  F_Days_earliest : FunE K "earliest" "Days.earliest" s_Days_earliest f_Days_earliest d_Days_earliest
  b_Days_earliest : Binds K d_Days_earliest ["self"] []
  at_Days_earliest : PySem.W.findIn K (.ref cs.Days) "earliest" = some (some (.ref f_Days_earliest))
  fn_Days_earliest : PySem.W.isFn K (.ref f_Days_earliest) = true
  f_Days_beyond : Addr
  d_Days_beyond : FuncData
  F_Days_beyond : FunE K "beyond" "Days.beyond" s_Days_beyond f_Days_beyond d_Days_beyond
  b_Days_beyond : Binds K d_Days_beyond ["self", "day"] []
  at_Days_beyond : PySem.W.findIn K (.ref cs.Days) "beyond" = some (some (.ref f_Days_beyond))
  fn_Days_beyond : PySem.W.isFn K (.ref f_Days_beyond) = true
  f_Days_turn : Addr
  d_Days_turn : FuncData
  F_Days_turn : FunE K "turn" "Days.turn" s_Days_turn f_Days_turn d_Days_turn
  b_Days_turn : Binds K d_Days_turn ["self", "day"] []
  at_Days_turn : PySem.W.findIn K (.ref cs.Days) "turn" = some (some (.ref f_Days_turn))
  fn_Days_turn : PySem.W.isFn K (.ref f_Days_turn) = true
  f_Days___invert__ : Addr
  d_Days___invert__ : FuncData
  F_Days___invert__ : FunE K "__invert__" "Days.__invert__" s_Days___invert__ f_Days___invert__ d_Days___invert__
  b_Days___invert__ : Binds K d_Days___invert__ ["self"] []
  at_Days___invert__ : PySem.W.findIn K (.ref cs.Days) "__invert__" = some (some (.ref f_Days___invert__))
  fn_Days___invert__ : PySem.W.isFn K (.ref f_Days___invert__) = true
  f_Days___contains__ : Addr
  d_Days___contains__ : FuncData
  F_Days___contains__ : FunE K "__contains__" "Days.__contains__" s_Days___contains__ f_Days___contains__ d_Days___contains__
  b_Days___contains__ : Binds K d_Days___contains__ ["self", "day"] []
  at_Days___contains__ : PySem.W.findIn K (.ref cs.Days) "__contains__" = some (some (.ref f_Days___contains__))
  fn_Days___contains__ : PySem.W.isFn K (.ref f_Days___contains__) = true
  f_Days___repr__ : Addr
  d_Days___repr__ : FuncData
  F_Days___repr__ : FunE K "__repr__" "Days.__repr__" s_Days___repr__ f_Days___repr__ d_Days___repr__
  b_Days___repr__ : Binds K d_Days___repr__ ["self"] []
  at_Days___repr__ : PySem.W.findIn K (.ref cs.Days) "__repr__" = some (some (.ref f_Days___repr__))
  fn_Days___repr__ : PySem.W.isFn K (.ref f_Days___repr__) = true
  cl_Days : Cls K cs.Days
  mk_Days : Mk K cs.Days f_Days___init__
  g_Days : mg "Days" = some (.ref cs.Days)
  na_Days__spans : NoAttr K cs.Days "_spans"
  z_abs : mg "abs" = none
  z_all : mg "all" = none
  z_any : mg "any" = none
  z_bool : mg "bool" = none
  z_enumerate : mg "enumerate" = none
  z_int : mg "int" = none
  z_isinstance : mg "isinstance" = none
  z_len : mg "len" = none
  z_list : mg "list" = none
  z_max : mg "max" = none
  z_min : mg "min" = none
  z_range : mg "range" = none
  z_repr : mg "repr" = none
  z_set : mg "set" = none
  z_sorted : mg "sorted" = none
  z_tuple : mg "tuple" = none
  z_zip : mg "zip" = none
  c_LAST_DAY : ∃ u, mg "LAST_DAY" = some (.int 1000000000 u)

section
variable {P : Program} {w : World} {K : PySem.W.Frag} {mg : Str → Option Value} {base : Heap}
theorem ok_check (T : Txt K mg) : FnOk P w K mg base CX0 1 T.f_check T.d_check ["answers"] (spM K 1 (m_check T.cs)) := by
  refine fnOk_of (k := 0) T.F_check sc_check (fun vs H Q E h => spM_len h) (fun cdv A outer s H vs Q E hr h => ?_)
  refine ⟨_, PSs.nox
    (pss_one (ps_for PassesOwn.never rfl (pi_enumK (K := K) rfl (by rfl) T.z_enumerate (pa_cons (pv 0) pa_nil)) (pg_tupK (K := K) (n := 2) rfl rfl (pgs_cons (pg_name (i := 1) sc_check.nd rfl (by first | exact Or.inl rfl | exact Or.inr rfl)) (pgs_cons (pg_name (i := 2) sc_check.nd rfl (by first | exact Or.inl rfl | exact Or.inr rfl)) pgs_nil))) (pss_one (ps_if (pt_not (pt_truthK (K := K) rfl (pv 2))) (pss_one ps_never) pss_nil)))), ?_⟩
  exact body_of h (fun b =>
    (evs_for (evi_enum (eva_cons evd_var eva_nil)) (evg_tup (evgs_cons evg_name (evgs_cons evg_name evgs_nil))) (evs_if (evt_not (evt_truK evd_var)) evs_never evs_next))) (fun ds Qd hl q => q)

theorem ok_is_integer (T : Txt K mg) : FnOk P w K mg base CX0 1 T.f_is_integer T.d_is_integer ["thing"] (spM K 1 (m_is_integer T.cs)) := by
  refine fnOk_of (k := 0) T.F_is_integer sc_is_integer (fun vs H Q E h => spM_len h) (fun cdv A outer s H vs Q E hr h => ?_)
  refine ⟨_, PSs.nox
    (pss_one (ps_ret (pe_and (pe_callB (isiK (K := K) rfl) (by rfl) T.z_isinstance bt_isinstance (pa_cons (pv 0) (pa_cons (pe_bltn (v := .ty "int") (by rfl) T.z_int bt_int rfl) pa_nil))) (pe_one (pe_not (pe_callB (isiK (K := K) rfl) (by rfl) T.z_isinstance bt_isinstance (pa_cons (pv 0) (pa_cons (pe_bltn (v := .ty "bool") (by rfl) T.z_bool bt_bool rfl) pa_nil)))))))), ?_⟩
  exact body_of h (fun b =>
    (evs_ret (evd_andV (evd_cb calld_isi (eva_cons evd_var (eva_cons evd_ty eva_nil))) (evd_notV (evd_cb calld_isi (eva_cons evd_var (eva_cons evd_ty eva_nil))))))) (fun ds Qd hl q => q)

theorem ok__fewest (T : Txt K mg) : FnOk P w K mg base CX0 1 T.f__fewest T.d__fewest ["spans"] (spM K 1 (m__fewest T.cs)) := by
  refine fnOk_of (k := 0) T.F__fewest sc__fewest (fun vs H Q E h => spM_len h) (fun cdv A outer s H vs Q E hr h => ?_)
  refine ⟨_, PSs.nox
    (pss_cons (ps_set (i := 1) sc__fewest.nd rfl (by first | exact Or.inl rfl | exact Or.inr rfl) (pe_lst pa_nil))
      (pss_cons (ps_for PassesOwn.never rfl (pi_lstK (K := K) rfl (pe_callB (sortK (K := K) (d := 2) (Bd := 1000000001) rfl (by decide)) (by rfl) T.z_sorted bt_sorted (pa_cons (pv 0) pa_nil))) (pg_tupK (K := K) (n := 2) rfl rfl (pgs_cons (pg_name (i := 2) sc__fewest.nd rfl (by first | exact Or.inl rfl | exact Or.inr rfl)) (pgs_cons (pg_name (i := 3) sc__fewest.nd rfl (by first | exact Or.inl rfl | exact Or.inr rfl)) pgs_nil))) (pss_cons (ps_if (pt_cmpR op_gt (pv 2) (pv 3) (nomark _)) (pss_one ps_continue) pss_nil)
      (pss_one (ps_if (PW.pt (pw_and (pt_truthK (K := K) rfl (pv 1)) (pw_and1 (pt_cmpR op_le (pv 2) (pe_op (addK (K := K) rfl) (pe_ix (ixK (K := K) rfl) (pe_ix (ixK (K := K) rfl) (pv 1) (pe_un un_neg pe_int) (fun _ _ => rfl)) pe_int (fun _ _ => rfl)) pe_int) (nomark _))))) (pss_one (ps_asg (pe_tup (pa_cons (pe_ix (ixK (K := K) rfl) (pe_ix (ixK (K := K) rfl) (pv 1) (pe_un un_neg pe_int) (fun _ _ => rfl)) pe_int (fun _ _ => rfl)) (pa_cons (pe_callB (max2K rfl) (by rfl) T.z_max bt_max (pa_cons (pv 3) (pa_cons (pe_ix (ixK (K := K) rfl) (pe_ix (ixK (K := K) rfl) (pv 1) (pe_un un_neg pe_int) (fun _ _ => rfl)) pe_int (fun _ _ => rfl)) pa_nil))) pa_nil))) (pg_sub (pv 1) (pe_un un_neg pe_int) set_list))) (pss_one (ps_expr (pe_bm PySem.F.plainAttrs_list PySem.F.slot_list_append PySem.F.type_list_append mt_append (pv 1) (pa_cons (pe_tup (pa_cons (pv 2) (pa_cons (pv 3) pa_nil))) pa_nil))))))))
      (pss_one (ps_ret (pe_callTy (tupK (K := K) rfl) (by rfl) T.z_tuple bt_tuple (pa_cons (pv 1) pa_nil)))))), ?_⟩
  exact body_of h (fun b =>
    (evs_seq (evs_own eva_nil)
      (evs_seq (evs_for (evi_list (evd_cb calld_sort (eva_cons evd_var eva_nil))) (evg_tup (evgs_cons evg_name (evgs_cons evg_name evgs_nil))) (evs_seq (evs_if (evt_test (evd_op opd_gt evd_var evd_var)) evs_cont evs_next)
      (evs_if (evt_and evt_truo (evt_test (evd_op opd_le evd_var (evd_op opd_add (evd_op opd_ix (evd_ixo (evd_un und_neg evd_int)) evd_int) evd_int)))) (evs_put (evd_tup (eva_cons (evd_op opd_ix (evd_ixo (evd_un und_neg evd_int)) evd_int) (eva_cons (evd_cb calld_max (eva_cons evd_var (eva_cons (evd_op opd_ix (evd_ixo (evd_un und_neg evd_int)) evd_int) eva_nil))) eva_nil))) (evd_un und_neg evd_int)) (evs_app (evd_tup (eva_cons evd_var (eva_cons evd_var eva_nil)))))))
      (evs_frz (evs_ret (evd_cb calld_tup (eva_cons evd_var eva_nil))))))) (fun ds Qd hl q => q)

theorem ok__law_has_day (T : Txt K mg) : FnOk P w K mg base CX0 1 T.f__law_has_day T.d__law_has_day ["_law_spans", "_law_day"] (spM K 2 (m__law_has_day T.cs)) := by
  refine fnOk_of (k := 0) T.F__law_has_day sc__law_has_day (fun vs H Q E h => spM_len h) (fun cdv A outer s H vs Q E hr h => ?_)
  refine ⟨_, PSs.nox
    (pss_one (ps_ret (pe_cmpR (neK (K := K) rfl hr.units) (pe_lc (own := [("_law_begin", 3), ("_law_end", 2)]) rfl sc__law_has_day.nd (pi_lstK (K := K) rfl (pv 0)) (blkOk_by (N := N__law_has_day) (sc := defScope s__law_has_day) (by decide +kernel)) (fun _ _ _ _ _ => (pg_tupK (K := K) (n := 2) rfl rfl (pgs_cons (pg_name (i := 3) sc__law_has_day.nd rfl (by first | exact Or.inl rfl | exact Or.inr rfl)) (pgs_cons (pg_name (i := 2) sc__law_has_day.nd rfl (by first | exact Or.inl rfl | exact Or.inr rfl)) pgs_nil)))) (fun _ _ _ _ _ => pts_one (pt_chain op_le op_le (pv 3) (pv 1) (pv 2))) (fun _ _ _ _ _ => pe_int)) (pe_lst pa_nil) (nomark _)))), ?_⟩
  exact body_of h (fun b =>
    (evs_ret (evd_op opd_ne (evd_lc (evi_list evd_var) (evg_tup (evgs_cons evg_name (evgs_cons evg_name evgs_nil))) (by decide) (evt_test (evd_chain opd_le opd_le evd_var evd_var evd_var)) evd_int) (evd_lst eva_nil)))) (fun ds Qd hl q => q)

theorem ok__law_points (T : Txt K mg) : FnOk P w K mg base CX0 1 T.f__law_points T.d__law_points ["_law_several"] (spM K 1 (m__law_points T.cs)) := by
  refine fnOk_of (k := 0) T.F__law_points sc__law_points (fun vs H Q E h => spM_len h) (fun cdv A outer s H vs Q E hr h => ?_)
  refine ⟨_, PSs.nox
    (pss_cons (ps_set (i := 1) sc__law_points.nd rfl (by first | exact Or.inl rfl | exact Or.inr rfl) (pe_lst (pa_cons pe_int pa_nil)))
      (pss_cons (ps_for PassesOwn.never rfl (pi_lstK (K := K) rfl (pv 0)) (pg_name (i := 2) sc__law_points.nd rfl (by first | exact Or.inl rfl | exact Or.inr rfl)) (pss_one (ps_for PassesOwn.never rfl (pi_lstK (K := K) rfl (pv 2)) (pg_tupK (K := K) (n := 2) rfl rfl (pgs_cons (pg_name (i := 3) sc__law_points.nd rfl (by first | exact Or.inl rfl | exact Or.inr rfl)) (pgs_cons (pg_name (i := 4) sc__law_points.nd rfl (by first | exact Or.inl rfl | exact Or.inr rfl)) pgs_nil))) (pss_one (ps_expr (pe_bm PySem.F.plainAttrs_list PySem.F.slot_list_extend PySem.F.type_list_extend mt_ext (pv 1) (pa_cons (pe_lst (pa_cons (pv 3) (pa_cons (pe_op (addK (K := K) rfl) (pv 4) pe_int) pa_nil))) pa_nil)))))))
      (pss_one (ps_ret (pe_callB (sortSetK (w := w) rfl rfl) (by rfl) T.z_sorted bt_sorted (pa_cons (pe_callTy (setLK (K := K) (w := w) rfl rfl rfl) (by rfl) T.z_set bt_set (pa_cons (pe_lc (own := [("_law_day", 5)]) rfl sc__law_points.nd (pi_lstK (K := K) rfl (pv 1)) (blkOk_by (N := N__law_points) (sc := defScope s__law_points) (by decide +kernel)) (fun _ _ _ _ _ => (pg_name (i := 5) sc__law_points.nd rfl (by first | exact Or.inl rfl | exact Or.inr rfl))) (fun _ _ _ _ _ => pts_one (pt_cmpR op_le (pv 5) (pe_op op_pow pe_int pe_int) (nomark _))) (fun _ _ _ _ _ => (pv 5))) pa_nil)) pa_nil)))))), ?_⟩
  exact body_of h (fun b =>
    (evs_seq (evs_own (eva_cons evd_int eva_nil))
      (evs_seq (evs_for (evi_list evd_var) evg_name (evs_for (evi_list evd_var) (evg_tup (evgs_cons evg_name (evgs_cons evg_name evgs_nil))) (evs_ext (evd_lst (eva_cons evd_var (eva_cons (evd_op opd_add evd_var evd_int) eva_nil))))))
      (evs_frz (evs_ret (evd_sortSet (w := w) (evd_lc (evi_list evd_var) evg_name (by decide) (evt_test (evd_op opd_le evd_var (evd_op opd_pow evd_int evd_int))) evd_var))))))) (fun ds Qd hl q => q)

theorem ok_Days_spans (T : Txt K mg) : FnOk P w K mg base CX0 1 T.f_Days_spans T.d_Days_spans ["self"] (spM K 1 (m_Days_spans T.cs)) := by
  refine fnOkE_of (k := 0) T.F_Days_spans sc_Days_spans (fun vs H Q E h => spM_len h) (fun cdv A outer s H vs Q E hr h => ?_)
  refine ⟨_, PSs.nox
    (pss_one (ps_ret (pe_callTy (lstK (K := K) rfl) (by rfl) T.z_list bt_list (pa_cons (pe_fld (pv 0) rfl) pa_nil)))), ?_⟩
  exact body_of h (fun b =>
    (evs_ret (evd_cb calld_lst (eva_cons (evd_fld T.cl_Days T.na_Days__spans evd_var) eva_nil)))) (fun ds Qd hl q => q)

theorem ok_Days_earliest (T : Txt K mg) : FnOk P w K mg base CX0 1 T.f_Days_earliest T.d_Days_earliest ["self"] (spM K 1 (m_Days_earliest T.cs)) := by
  refine fnOkE_of (k := 0) T.F_Days_earliest sc_Days_earliest (fun vs H Q E h => spM_len h) (fun cdv A outer s H vs Q E hr h => ?_)
  refine ⟨_, PSs.nox
    (pss_one (ps_ret (pe_ifExp (pt_truthK (K := K) rfl (pe_fld (pv 0) rfl)) (pe_ix (ixK (K := K) rfl) (pe_ix (ixK (K := K) rfl) (pe_fld (pv 0) rfl) pe_int (fun _ _ => rfl)) pe_int (fun _ _ => rfl)) pe_non))), ?_⟩
  exact body_of h (fun b =>
    (evs_ret (evd_if (evt_truK (evd_fld T.cl_Days T.na_Days__spans evd_var)) (evd_op opd_ix (evd_op opd_ix (evd_fld T.cl_Days T.na_Days__spans evd_var) evd_int) evd_int) evd_non))) (fun ds Qd hl q => q)

theorem ok_Days_beyond (T : Txt K mg) : FnOk P w K mg base CX0 1 T.f_Days_beyond T.d_Days_beyond ["self", "day"] (spM K 2 (m_Days_beyond T.cs)) := by
  refine fnOkE_of (k := 0) T.F_Days_beyond sc_Days_beyond (fun vs H Q E h => spM_len h) (fun cdv A outer s H vs Q E hr h => ?_)
  refine ⟨_, PSs.nox
    (pss_cons (ps_for PassesOwn.never rfl (pi_tupK (K := K) rfl (pe_fld (pv 0) rfl)) (pg_tupK (K := K) (n := 2) rfl rfl (pgs_cons (pg_name (i := 2) sc_Days_beyond.nd rfl (by first | exact Or.inl rfl | exact Or.inr rfl)) (pgs_cons (pg_name (i := 3) sc_Days_beyond.nd rfl (by first | exact Or.inl rfl | exact Or.inr rfl)) pgs_nil))) (pss_one (ps_if (pt_cmpR op_lt (pv 1) (pv 3) (nomark _)) (pss_one (ps_ret (pe_callB (max2K rfl) (by rfl) T.z_max bt_max (pa_cons (pv 2) (pa_cons (pe_op (addK (K := K) rfl) (pv 1) pe_int) pa_nil))))) pss_nil)))
      (pss_one (ps_ret pe_non))), ?_⟩
  exact body_of h (fun b =>
    (evs_seq (evs_for (evi_tup (evd_fld T.cl_Days T.na_Days__spans evd_var)) (evg_tup (evgs_cons evg_name (evgs_cons evg_name evgs_nil))) (evs_if (evt_test (evd_op opd_lt evd_var evd_var)) (evs_ret (evd_cb calld_max (eva_cons evd_var (eva_cons (evd_op opd_add evd_var evd_int) eva_nil)))) evs_next))
      (evs_ret evd_non))) (fun ds Qd hl q => q)

theorem ok_Days___contains__ (T : Txt K mg) : FnOk P w K mg base CX0 1 T.f_Days___contains__ T.d_Days___contains__ ["self", "day"] (spM K 2 (m_Days___contains__ T.cs)) := by
  refine fnOkE_of (k := 0) T.F_Days___contains__ sc_Days___contains__ (fun vs H Q E h => spM_len h) (fun cdv A outer s H vs Q E hr h => ?_)
  refine ⟨_, PSs.nox
    (pss_one (ps_ret (pe_callB (anyK (K := K) rfl rfl) (by rfl) T.z_any bt_any (pa_cons (pe_lc (own := [("first", 2), ("last", 3)]) rfl sc_Days___contains__.nd (pi_tupK (K := K) rfl (pe_fld (pv 0) rfl)) (blkOk_by (N := N_Days___contains__) (sc := defScope s_Days___contains__) (by decide +kernel)) (fun _ _ _ _ _ => (pg_tupK (K := K) (n := 2) rfl rfl (pgs_cons (pg_name (i := 2) sc_Days___contains__.nd rfl (by first | exact Or.inl rfl | exact Or.inr rfl)) (pgs_cons (pg_name (i := 3) sc_Days___contains__.nd rfl (by first | exact Or.inl rfl | exact Or.inr rfl)) pgs_nil)))) (fun _ _ _ _ _ => pts_nil) (fun _ _ _ _ _ => (pe_chain op_le op_le (pv 2) (pv 1) (pv 3)))) pa_nil)))), ?_⟩
  exact body_of h (fun b =>
    (evs_ret (evd_cb calld_any (eva_cons (evd_lc (evi_tup (evd_fld T.cl_Days T.na_Days__spans evd_var)) (evg_tup (evgs_cons evg_name (evgs_cons evg_name evgs_nil))) (by decide) evt_yes (evd_chain opd_le opd_le evd_var evd_var evd_var)) eva_nil)))) (fun ds Qd hl q => q)

theorem ok_is_day (T : Txt K mg) (G_is_integer : FnOk P w K mg base CX0 1 T.f_is_integer T.d_is_integer ["thing"] (spM K 1 (m_is_integer T.cs))) : FnOk P w K mg base CX0 2 T.f_is_day T.d_is_day ["thing"] (spM K 1 (m_is_day T.cs)) := by
  refine fnOk_of (k := 1) T.F_is_day sc_is_day (fun vs H Q E h => spM_len h) (fun cdv A outer s H vs Q E hr h => ?_)
  refine ⟨_, PSs.nox
    (pss_one (ps_ret (pe_and (pe_call G_is_integer (hr.mono (by decide)) rfl T.g_is_integer T.F_is_integer.kp T.b_is_integer .nil pass0 (pa_cons (pv 0) pa_nil)) (pe_one (pe_chain op_le op_le pe_int (pv 0) (pe_glob (v := (.int 1000000000)) rfl T.c_LAST_DAY.choose_spec ⟨_, rfl⟩)))))), ?_⟩
  exact body_of h (fun b =>
    (evs_ret (evd_andV (evd_call (fun _ _ => .nil) (eva_cons evd_var eva_nil)) (evd_chain opd_le opd_le evd_int evd_var evd_int)))) (fun ds Qd hl q => q)

theorem ok__law_mixed (T : Txt K mg) (G__law_take : FnOk P w K mg base CX0 1 T.f__law_take T.d__law_take ["_law_bag_here", "_law_many"] (spM K 2 m__law_take)) : FnOk P w K mg base CX0 2 T.f__law_mixed T.d__law_mixed ["_law_bag_here", "_law_things"] (spM K 2 (m__law_mixed T.cs)) := by
  refine fnOk_of (k := 1) T.F__law_mixed sc__law_mixed (fun vs H Q E h => spM_len h) (fun cdv A outer s H vs Q E hr h => ?_)
  refine ⟨_, PSs.nox
    (pss_cons (ps_set (i := 2) sc__law_mixed.nd rfl (by first | exact Or.inl rfl | exact Or.inr rfl) (pe_lst pa_nil))
      (pss_cons (ps_for PassesOwn.never rfl (pi_lstK (K := K) rfl (pv 1)) (pg_name (i := 3) sc__law_mixed.nd rfl (by first | exact Or.inl rfl | exact Or.inr rfl)) (pss_one (ps_expr (pe_bm PySem.F.plainAttrs_list PySem.F.slot_list_insert PySem.F.type_list_insert mt_ins (pv 2) (pa_cons (pe_call G__law_take (hr.mono (by decide)) rfl T.g__law_take T.F__law_take.kp T.b__law_take .nil pass0 (pa_cons (pv 0) (pa_cons (pe_op (addK (K := K) rfl) (pe_callB (lenK (K := K) rfl) (by rfl) T.z_len bt_len (pa_cons (pv 2) pa_nil)) pe_int) pa_nil))) (pa_cons (pv 3) pa_nil))))))
      (pss_one (ps_ret (pv 2))))), ?_⟩
  exact body_of h (fun b =>
    (evs_seq (evs_own eva_nil)
      (evs_seq (evs_for (evi_list evd_var) evg_name (evs_ins (evd_call (fun _ _ => .nil) (eva_cons evd_var (eva_cons (evd_op opd_add evd_leno evd_int) eva_nil))) evd_var))
      (evs_frz (evs_ret evd_var))))) (fun ds Qd hl q => q)

theorem ok__law_drawn_spans (T : Txt K mg) (G__law_take : FnOk P w K mg base CX0 1 T.f__law_take T.d__law_take ["_law_bag_here", "_law_many"] (spM K 2 m__law_take)) : FnOk P w K mg base CX0 2 T.f__law_drawn_spans T.d__law_drawn_spans ["_law_bag_here", "_law_many"] (spM K 2 (m__law_drawn_spans T.cs)) := by
  refine fnOk_of (k := 1) T.F__law_drawn_spans sc__law_drawn_spans (fun vs H Q E h => spM_len h) (fun cdv A outer s H vs Q E hr h => ?_)
  refine ⟨_, PSs.nox
    (pss_cons (ps_set (i := 2) sc__law_drawn_spans.nd rfl (by first | exact Or.inl rfl | exact Or.inr rfl) (pe_lst pa_nil))
      (pss_cons (ps_for PassesOwn.never rfl (pi_range1 (by rfl) T.z_range (pa_cons (pe_call G__law_take (hr.mono (by decide)) rfl T.g__law_take T.F__law_take.kp T.b__law_take .nil pass0 (pa_cons (pv 0) (pa_cons (pe_op (addK (K := K) rfl) (pv 1) pe_int) pa_nil))) pa_nil)) (pg_name (i := 3) sc__law_drawn_spans.nd rfl (by first | exact Or.inl rfl | exact Or.inr rfl)) (pss_cons (ps_set (i := 4) sc__law_drawn_spans.nd rfl (by first | exact Or.inl rfl | exact Or.inr rfl) (pe_call G__law_take (hr.mono (by decide)) rfl T.g__law_take T.F__law_take.kp T.b__law_take .nil pass0 (pa_cons (pv 0) (pa_cons (pe_op (addK (K := K) rfl) (pe_op op_pow pe_int pe_int) pe_int) pa_nil))))
      (pss_cons (ps_set (i := 5) sc__law_drawn_spans.nd rfl (by first | exact Or.inl rfl | exact Or.inr rfl) (pe_ix (ixK (K := K) rfl) (pe_lst (pa_cons (pe_call G__law_take (hr.mono (by decide)) rfl T.g__law_take T.F__law_take.kp T.b__law_take .nil pass0 (pa_cons (pv 0) (pa_cons pe_int pa_nil))) (pa_cons (pe_call G__law_take (hr.mono (by decide)) rfl T.g__law_take T.F__law_take.kp T.b__law_take .nil pass0 (pa_cons (pv 0) (pa_cons pe_int pa_nil))) (pa_cons (pv 4) (pa_cons (pe_op op_sub (pe_op op_pow pe_int pe_int) (pe_call G__law_take (hr.mono (by decide)) rfl T.g__law_take T.F__law_take.kp T.b__law_take .nil pass0 (pa_cons (pv 0) (pa_cons pe_int pa_nil)))) (pa_cons pe_int pa_nil)))))) (pe_call G__law_take (hr.mono (by decide)) rfl T.g__law_take T.F__law_take.kp T.b__law_take .nil pass0 (pa_cons (pv 0) (pa_cons pe_int pa_nil))) (fun _ _ => rfl)))
      (pss_cons (ps_set (i := 6) sc__law_drawn_spans.nd rfl (by first | exact Or.inl rfl | exact Or.inr rfl) (pe_ix (ixK (K := K) rfl) (pe_lst (pa_cons (pe_op (addK (K := K) rfl) (pv 5) (pe_call G__law_take (hr.mono (by decide)) rfl T.g__law_take T.F__law_take.kp T.b__law_take .nil pass0 (pa_cons (pv 0) (pa_cons pe_int pa_nil)))) (pa_cons (pv 5) (pa_cons (pe_op op_sub (pv 5) (pe_call G__law_take (hr.mono (by decide)) rfl T.g__law_take T.F__law_take.kp T.b__law_take .nil pass0 (pa_cons (pv 0) (pa_cons pe_int pa_nil)))) (pa_cons (pe_op op_pow pe_int pe_int) (pa_cons (pv 4) pa_nil)))))) (pe_call G__law_take (hr.mono (by decide)) rfl T.g__law_take T.F__law_take.kp T.b__law_take .nil pass0 (pa_cons (pv 0) (pa_cons pe_int pa_nil))) (fun _ _ => rfl)))
      (pss_one (ps_expr (pe_bm PySem.F.plainAttrs_list PySem.F.slot_list_append PySem.F.type_list_append mt_append (pv 2) (pa_cons (pe_tup (pa_cons (pv 5) (pa_cons (pe_callB (max2K rfl) (by rfl) T.z_max bt_max (pa_cons pe_int (pa_cons (pe_callB (min2K rfl) (by rfl) T.z_min bt_min (pa_cons (pe_op op_pow pe_int pe_int) (pa_cons (pv 6) pa_nil))) pa_nil))) pa_nil))) pa_nil))))))))
      (pss_one (ps_ret (pv 2))))), ?_⟩
  exact body_of h (fun b =>
    (evs_seq (evs_own eva_nil)
      (evs_seq (evs_for (evi_rng1 (eva_cons (evd_call (fun _ _ => .nil) (eva_cons evd_var (eva_cons (evd_op opd_add evd_var evd_int) eva_nil))) eva_nil)) evg_name (evs_seq (evs_asg (evd_call (fun _ _ => .nil) (eva_cons evd_var (eva_cons (evd_op opd_add (evd_op opd_pow evd_int evd_int) evd_int) eva_nil))) evg_name)
      (evs_seq (evs_asg (evd_op opd_ix (evd_lst (eva_cons (evd_call (fun _ _ => .nil) (eva_cons evd_var (eva_cons evd_int eva_nil))) (eva_cons (evd_call (fun _ _ => .nil) (eva_cons evd_var (eva_cons evd_int eva_nil))) (eva_cons evd_var (eva_cons (evd_op opd_sub (evd_op opd_pow evd_int evd_int) (evd_call (fun _ _ => .nil) (eva_cons evd_var (eva_cons evd_int eva_nil)))) (eva_cons evd_int eva_nil)))))) (evd_call (fun _ _ => .nil) (eva_cons evd_var (eva_cons evd_int eva_nil)))) evg_name)
      (evs_seq (evs_asg (evd_op opd_ix (evd_lst (eva_cons (evd_op opd_add evd_var (evd_call (fun _ _ => .nil) (eva_cons evd_var (eva_cons evd_int eva_nil)))) (eva_cons evd_var (eva_cons (evd_op opd_sub evd_var (evd_call (fun _ _ => .nil) (eva_cons evd_var (eva_cons evd_int eva_nil)))) (eva_cons (evd_op opd_pow evd_int evd_int) (eva_cons evd_var eva_nil)))))) (evd_call (fun _ _ => .nil) (eva_cons evd_var (eva_cons evd_int eva_nil)))) evg_name)
      (evs_app (evd_tup (eva_cons evd_var (eva_cons (evd_cb calld_max (eva_cons evd_int (eva_cons (evd_cb calld_min (eva_cons (evd_op opd_pow evd_int evd_int) (eva_cons evd_var eva_nil))) eva_nil))) eva_nil))))))))
      (evs_frz (evs_ret evd_var))))) (fun ds Qd hl q => q)

theorem ok__law_later (T : Txt K mg) (G__law_has_day : FnOk P w K mg base CX0 1 T.f__law_has_day T.d__law_has_day ["_law_spans", "_law_day"] (spM K 2 (m__law_has_day T.cs))) : FnOk P w K mg base CX0 2 T.f__law_later T.d__law_later ["_law_spans", "_law_points_here", "_law_day", "_law_wanted"] (spM K 4 (m__law_later T.cs)) := by
  refine fnOk_of (k := 1) T.F__law_later sc__law_later (fun vs H Q E h => spM_len h) (fun cdv A outer s H vs Q E hr h => ?_)
  refine ⟨_, PSs.nox
    (pss_cons (ps_setLc (i := 4) (own := [("_law_one", 5)]) rfl sc__law_later.nd rfl rfl (sw_true rfl rfl rfl (by decide +kernel)) (pi_lstK (K := K) rfl (pe_op (addK (K := K) rfl) (pe_lst (pa_cons (pe_op (addK (K := K) rfl) (pv 2) pe_int) pa_nil)) (pv 1))) (blkOk_by (N := N__law_later) (sc := defScope s__law_later) (by decide +kernel)) (fun _ _ _ _ _ => (pg_name (i := 5) sc__law_later.nd rfl (by first | exact Or.inl rfl | exact Or.inr rfl))) (fun _ _ _ _ _ => pts_one (PW.pt (pw_and (pt_chain op_lt op_le (pv 2) (pv 5) (pe_op op_pow pe_int pe_int)) (pw_and1 (pt_cmpR (eqGK (K := K) rfl hr.units) (pe_call G__law_has_day (hr.mono (by decide)) rfl T.g__law_has_day T.F__law_has_day.kp T.b__law_has_day .nil pass0 (pa_cons (pv 0) (pa_cons (pv 5) pa_nil))) (pv 3) (nomark _)))))) (fun _ _ _ _ _ => (pv 5)))
      (pss_one (ps_ret (pe_ifExp (pt_cmpR (neK (K := K) rfl hr.units) (pv 4) (pe_lst pa_nil) (nomark _)) (pe_callB (minLK (K := K) rfl rfl) (by rfl) T.z_min bt_min (pa_cons (pv 4) pa_nil)) pe_non)))), ?_⟩
  exact body_of h (fun b =>
    (evs_seq (evs_asg (evd_lc (evi_list (evd_op opd_add (evd_lst (eva_cons (evd_op opd_add evd_var evd_int) eva_nil)) evd_var)) evg_name (by decide) (evt_and (evt_test (evd_chain opd_lt opd_le evd_var evd_var (evd_op opd_pow evd_int evd_int))) (evt_test (evd_op opd_eqG (evd_call (fun _ _ => .nil) (eva_cons evd_var (eva_cons evd_var eva_nil))) evd_var))) evd_var) evg_name)
      (evs_ret (evd_if (evt_test (evd_op opd_ne evd_var (evd_lst eva_nil))) (evd_cb calld_minL (eva_cons evd_var eva_nil)) evd_non)))) (fun ds Qd hl q => q)

theorem ok_Days___repr__ (T : Txt K mg) (G_Days_spans : FnOk P w K mg base CX0 1 T.f_Days_spans T.d_Days_spans ["self"] (spM K 1 (m_Days_spans T.cs))) : FnW P w K mg base CX0 2 T.f_Days___repr__ T.d_Days___repr__ ["self"] (spM K 1 (m_Days___repr__ T.cs)) := by
  refine fnWE_of (k := 1) T.F_Days___repr__ sc_Days___repr__ (fun vs H Q E h => spM_len h) (fun cdv A outer s H vs Q E g hr hg okg h => ?_)
  refine ⟨_, PSs.nox
    (pss_one (ps_ret (pe_joined (.cons pe_str (.cons (pe_fmtL (k := 1) hr hg (pe_meth0 (pv 0) T.cl_Days ⟨T.at_Days_spans, T.fn_Days_spans, T.F_Days_spans.kp⟩ G_Days_spans (hr.mono (by decide)) T.b_Days_spans .nil pass0)) (.cons pe_str .nil)))))), ?_⟩
  exact repr_body (M := "spans") okg h

theorem ok__is_span (T : Txt K mg) (G_is_day : FnOk P w K mg base CX0 2 T.f_is_day T.d_is_day ["thing"] (spM K 1 (m_is_day T.cs))) : FnOk P w K mg base CX0 3 T.f__is_span T.d__is_span ["thing"] (spM K 1 (m__is_span T.cs)) := by
  refine fnOk_of (k := 2) T.F__is_span sc__is_span (fun vs H Q E h => spM_len h) (fun cdv A outer s H vs Q E hr h => ?_)
  refine ⟨_, PSs.nox
    (pss_one (ps_ret (pe_and (pe_callB (isiK (K := K) rfl) (by rfl) T.z_isinstance bt_isinstance (pa_cons (pv 0) (pa_cons (pe_bltn (v := .ty "tuple") (by rfl) T.z_tuple bt_tuple rfl) pa_nil))) (pe_and (pe_cmpR (eqGK (K := K) rfl hr.units) (pe_callB (lenK (K := K) rfl) (by rfl) T.z_len bt_len (pa_cons (pv 0) pa_nil)) pe_int (nomark _)) (pe_and (pe_call G_is_day (hr.mono (by decide)) rfl T.g_is_day T.F_is_day.kp T.b_is_day .nil pass0 (pa_cons (pe_ix (ixK (K := K) rfl) (pv 0) pe_int (fun _ _ => rfl)) pa_nil)) (pe_one (pe_call G_is_day (hr.mono (by decide)) rfl T.g_is_day T.F_is_day.kp T.b_is_day .nil pass0 (pa_cons (pe_ix (ixK (K := K) rfl) (pv 0) pe_int (fun _ _ => rfl)) pa_nil)))))))), ?_⟩
  exact body_of h (fun b =>
    (evs_ret (evd_andV (evd_cb calld_isi (eva_cons evd_var (eva_cons evd_ty eva_nil))) (evd_andV (evd_op opd_eqG (evd_cb calld_len (eva_cons evd_var eva_nil)) evd_int) (evd_andV (evd_call (fun _ _ => .nil) (eva_cons (evd_op opd_ix evd_var evd_int) eva_nil)) (evd_call (fun _ _ => .nil) (eva_cons (evd_op opd_ix evd_var evd_int) eva_nil))))))) (fun ds Qd hl q => q)

theorem ok__are_spans (T : Txt K mg) (G__is_span : FnOk P w K mg base CX0 3 T.f__is_span T.d__is_span ["thing"] (spM K 1 (m__is_span T.cs))) : FnOk P w K mg base CX0 4 T.f__are_spans T.d__are_spans ["thing"] (spM K 1 (m__are_spans T.cs)) := by
  refine fnOk_of (k := 3) T.F__are_spans sc__are_spans (fun vs H Q E h => spM_len h) (fun cdv A outer s H vs Q E hr h => ?_)
  refine ⟨_, PSs.nox
    (pss_one (ps_ret (pe_and (pe_callB (isiTK (K := K) rfl) (by rfl) T.z_isinstance bt_isinstance (pa_cons (pv 0) (pa_cons (pe_tup (pa_cons (pe_bltn (v := .ty "list") (by rfl) T.z_list bt_list rfl) (pa_cons (pe_bltn (v := .ty "tuple") (by rfl) T.z_tuple bt_tuple rfl) pa_nil))) pa_nil))) (pe_one (pe_callB (allK (K := K) rfl rfl) (by rfl) T.z_all bt_all (pa_cons (pe_lc (own := [("span", 1)]) rfl sc__are_spans.nd (pi_lstK (K := K) rfl (pv 0)) (blkOk_by (N := N__are_spans) (sc := defScope s__are_spans) (by decide +kernel)) (fun _ _ _ _ _ => (pg_name (i := 1) sc__are_spans.nd rfl (by first | exact Or.inl rfl | exact Or.inr rfl))) (fun _ _ _ _ _ => pts_nil) (fun _ _ _ _ _ => (pe_call G__is_span (hr.mono (by decide)) rfl T.g__is_span T.F__is_span.kp T.b__is_span .nil pass0 (pa_cons (pv 1) pa_nil)))) pa_nil)))))), ?_⟩
  exact body_of h (fun b =>
    (evs_ret (evd_andV (evd_isiT evd_var (eva_cons evd_ty (eva_cons evd_ty eva_nil))) (evd_cb calld_all (eva_cons (evd_lc (evi_list evd_var) evg_name (by decide) evt_yes (evd_call (fun _ _ => .nil) (eva_cons evd_var eva_nil))) eva_nil))))) (fun ds Qd hl q => q)

theorem ok_Days___init__ (T : Txt K mg) (G_check : FnOk P w K mg base CX0 1 T.f_check T.d_check ["answers"] (spM K 1 (m_check T.cs))) (G__fewest : FnOk P w K mg base CX0 1 T.f__fewest T.d__fewest ["spans"] (spM K 1 (m__fewest T.cs))) (G__are_spans : FnOk P w K mg base CX0 4 T.f__are_spans T.d__are_spans ["thing"] (spM K 1 (m__are_spans T.cs))) : FnOk P w K mg base CX0 5 T.f_Days___init__ T.d_Days___init__ ["self", "spans"] (spI K T.cs.Days 1 (m_Days___init__ T.cs)) := by
  refine fnOkE_of (k := 4) T.F_Days___init__ sc_Days___init__ (fun vs H Q E h => spI_len h) (fun cdv A outer s H vs Q E hr h => ?_)
  refine ⟨_, PSs.nox
    (pss_cons (ps_expr (pe_call G_check (hr.mono (by decide)) rfl T.g_check T.F_check.kp T.b_check .nil pass0 (pa_cons (pe_lst (pa_cons (pe_call G__are_spans (hr.mono (by decide)) rfl T.g__are_spans T.F__are_spans.kp T.b__are_spans .nil pass0 (pa_cons (pv 1) pa_nil)) pa_nil)) pa_nil)))
      (pss_one (ps_fld (pv 0) (pe_call G__fewest (hr.mono (by decide)) rfl T.g__fewest T.F__fewest.kp T.b__fewest .nil pass0 (pa_cons (pv 1) pa_nil)) rfl))), ?_⟩
  exact init_of h (fun b =>
    (evs_seq (evs_drop (evd_call (fun _ _ => .nil) (eva_cons (evd_lst (eva_cons (evd_call (fun _ _ => .nil) (eva_cons evd_var eva_nil)) eva_nil)) eva_nil)))
      (evs_slf T.cl_Days T.na_Days__spans (evd_call (fun _ _ => .nil) (eva_cons evd_var eva_nil))))) (fun a ds Qf hl q => q)

theorem ok_Days___invert__ (T : Txt K mg) (G_Days___init__ : FnOk P w K mg base CX0 5 T.f_Days___init__ T.d_Days___init__ ["self", "spans"] (spI K T.cs.Days 1 (m_Days___init__ T.cs))) : FnOk P w K mg base CX0 7 T.f_Days___invert__ T.d_Days___invert__ ["self"] (spM K 1 (m_Days___invert__ T.cs)) := by
  refine fnOkE_of (k := 6) T.F_Days___invert__ sc_Days___invert__ (fun vs H Q E h => spM_len h) (fun cdv A outer s H vs Q E hr h => ?_)
  refine ⟨_, PSs.nox
    (pss_cons (ps_set (i := 1) sc_Days___invert__.nd rfl (by first | exact Or.inl rfl | exact Or.inr rfl) (pe_lst (pa_cons pe_int (StX.pa_star (pe_lc (own := [("first", 2), ("last", 3)]) rfl sc_Days___invert__.nd (pi_tupK (K := K) rfl (pe_fld (pv 0) rfl)) (blkOk_by (N := N_Days___invert__) (sc := defScope s_Days___invert__) (by decide +kernel)) (fun _ _ _ _ _ => (pg_tupK (K := K) (n := 2) rfl rfl (pgs_cons (pg_name (i := 2) sc_Days___invert__.nd rfl (by first | exact Or.inl rfl | exact Or.inr rfl)) (pgs_cons (pg_name (i := 3) sc_Days___invert__.nd rfl (by first | exact Or.inl rfl | exact Or.inr rfl)) pgs_nil)))) (fun _ _ _ _ _ => pts_nil) (fun _ _ _ _ _ => (pe_op (addK (K := K) rfl) (pv 3) pe_int))) pa_nil))))
      (pss_cons (ps_set (i := 4) sc_Days___invert__.nd rfl (by first | exact Or.inl rfl | exact Or.inr rfl) (pe_lst (StX.pa_star (pe_lc (own := [("first", 2), ("last", 3)]) rfl sc_Days___invert__.nd (pi_tupK (K := K) rfl (pe_fld (pv 0) rfl)) (blkOk_by (N := N_Days___invert__) (sc := defScope s_Days___invert__) (by decide +kernel)) (fun _ _ _ _ _ => (pg_tupK (K := K) (n := 2) rfl rfl (pgs_cons (pg_name (i := 2) sc_Days___invert__.nd rfl (by first | exact Or.inl rfl | exact Or.inr rfl)) (pgs_cons (pg_name (i := 3) sc_Days___invert__.nd rfl (by first | exact Or.inl rfl | exact Or.inr rfl)) pgs_nil)))) (fun _ _ _ _ _ => pts_nil) (fun _ _ _ _ _ => (pe_op op_sub (pv 2) pe_int))) (pa_cons (pe_glob (v := (.int 1000000000)) rfl T.c_LAST_DAY.choose_spec ⟨_, rfl⟩) pa_nil))))
      (pss_one (ps_ret (pe_make T.mk_Days G_Days___init__ (hr.mono (by decide)) rfl T.g_Days T.b_Days___init__ .nil pass0 (pa_cons (pe_lc (own := [("first", 2), ("last", 3)]) rfl sc_Days___invert__.nd (pi_zipK (K := K) rfl (by rfl) T.z_zip (pa_cons (pv 1) (pa_cons (pv 4) pa_nil))) (blkOk_by (N := N_Days___invert__) (sc := defScope s_Days___invert__) (by decide +kernel)) (fun _ _ _ _ _ => (pg_tupK (K := K) (n := 2) rfl rfl (pgs_cons (pg_name (i := 2) sc_Days___invert__.nd rfl (by first | exact Or.inl rfl | exact Or.inr rfl)) (pgs_cons (pg_name (i := 3) sc_Days___invert__.nd rfl (by first | exact Or.inl rfl | exact Or.inr rfl)) pgs_nil)))) (fun _ _ _ _ _ => pts_one (pt_cmpR op_le (pv 2) (pv 3) (nomark _))) (fun _ _ _ _ _ => (pe_tup (pa_cons (pv 2) (pa_cons (pv 3) pa_nil))))) pa_nil)))))), ?_⟩
  exact body_of h (fun b =>
    (evs_seq (evs_asg (evd_lst (eva_cons evd_int (eva_star (evd_lc (evi_tup (evd_fld T.cl_Days T.na_Days__spans evd_var)) (evg_tup (evgs_cons evg_name (evgs_cons evg_name evgs_nil))) (by decide) evt_yes (evd_op opd_add evd_var evd_int)) eva_nil))) evg_name)
      (evs_seq (evs_asg (evd_lst (eva_star (evd_lc (evi_tup (evd_fld T.cl_Days T.na_Days__spans evd_var)) (evg_tup (evgs_cons evg_name (evgs_cons evg_name evgs_nil))) (by decide) evt_yes (evd_op opd_sub evd_var evd_int)) (eva_cons evd_int eva_nil))) evg_name)
      (evs_ret (evd_make (fun _ _ => .nil) (eva_cons (evd_lc (evi_zip (eva_cons evd_var (eva_cons evd_var eva_nil))) (evg_tup (evgs_cons evg_name (evgs_cons evg_name evgs_nil))) (by decide) (evt_test (evd_op opd_le evd_var evd_var)) (evd_tup (eva_cons evd_var (eva_cons evd_var eva_nil)))) eva_nil)))))) (fun ds Qd hl q => q)

theorem ok_Days_turn (T : Txt K mg) (G_Days_beyond : FnOk P w K mg base CX0 1 T.f_Days_beyond T.d_Days_beyond ["self", "day"] (spM K 2 (m_Days_beyond T.cs))) (G_Days___contains__ : FnOk P w K mg base CX0 1 T.f_Days___contains__ T.d_Days___contains__ ["self", "day"] (spM K 2 (m_Days___contains__ T.cs))) (G_Days___invert__ : FnOk P w K mg base CX0 7 T.f_Days___invert__ T.d_Days___invert__ ["self"] (spM K 1 (m_Days___invert__ T.cs))) : FnOk P w K mg base CX0 8 T.f_Days_turn T.d_Days_turn ["self", "day"] (spM K 2 (m_Days_turn T.cs)) := by
  refine fnOkE_of (k := 7) T.F_Days_turn sc_Days_turn (fun vs H Q E h => spM_len h) (fun cdv A outer s H vs Q E hr h => ?_)
  refine ⟨_, PSs.nox
    (pss_one (ps_ret (pe_meth (pe_ifExp (pt_cmpR (op_inOwn G_Days___contains__ (hr.mono (by decide)) T.at_Days___contains__ T.fn_Days___contains__ T.b_Days___contains__ pass0) (pv 1) (pv 0) (by rfl)) (pe_un (un_invOwn G_Days___invert__ (hr.mono (by decide)) T.at_Days___invert__ T.fn_Days___invert__ T.b_Days___invert__ pass0) (pv 0)) (pv 0)) T.cl_Days ⟨T.at_Days_beyond, T.fn_Days_beyond, T.F_Days_beyond.kp⟩ G_Days_beyond (hr.mono (by decide)) T.b_Days_beyond .nil pass0 (pa_cons (pv 1) pa_nil)))), ?_⟩
  exact body_of h (fun b =>
    (evs_ret (evd_meth (fun _ _ => .nil) (evd_if (evt_test (evd_ownIn evd_var evd_var)) (evd_own1 evd_var) evd_var) (eva_cons evd_var eva_nil)))) (fun ds Qd hl q => q)

end
section
variable {P : Program} {w : World} {K : PySem.W.Frag} {mg : Str → Option Value} {base : Heap}
theorem ok__law_bag (T : Txt K mg) : FnOk P w K mg base CX0 1 T.f__law_bag T.d__law_bag ["_law_script"] (spBag K) := by
  refine fnOk_of (k := 0) T.F__law_bag sc__law_bag (fun vs H Q E h => spBag_len h) (fun cdv A outer s H vs Q E hr h => ⟨_, PSs.nox
    (pss_one (ps_ret (pe_lst (pa_cons pe_int (pa_cons pe_int (pa_cons pe_int (pa_cons (pe_lc (own := [("_law_cell", 1)]) (g := gName 1) (tt := tYes) rfl sc__law_bag.nd (pi_list (pe_slice sl_list (pv 0) po_none (po_some pe_int)))
      (blkOk_by (N := N__law_bag) (sc := defScope s__law_bag) (by decide +kernel)) (fun _ _ _ _ _ => pg_name (i := 1) sc__law_bag.nd rfl (Or.inl rfl)) (fun _ _ _ _ _ => pts_nil)
      (fun _ _ _ _ _ => pe_callB call_abs (by rfl) T.z_abs bt_abs (pa_cons (pv 1) pa_nil))) pa_nil))))))), ?_⟩)
  obtain ⟨a, ns, rfl, hS, hlen, q⟩ := h
  refine ⟨.ref a, rfl, 63, rfl, a, _, rfl, hS, fun p hp => ?_⟩
  obtain ⟨ms, ecut, hms⟩ := cut_ints ns none (some 63)
  rw [ecut]
  have hp1 : upd H p (.lst (ms.map V.int)) p = some (.lst (ms.map V.int)) := upd_same
  refine ⟨p, rfl, ⟨_, .of hp1⟩, fun Dl hD => ?_⟩
  have npD : p ≠ Dl := fun e => by rw [← e, upd_same] at hD; cases hD
  refine lc_list (K := K) (a := p) (xs := ms.map V.int) (fun i H' => H' Dl = some (.lst ((ms.take i).map fun x => V.int (absI x))) ∧ H' p = some (.lst (ms.map V.int)) ∧ ∀ x o, H x = some o → H' x = some o) ?_ ?_ ?_ ?_
  · refine ⟨upd_same, by rw [upd_ne npD]; exact hp1, fun x o e => ?_⟩
    have n1 : x ≠ p := ne_of_none e hp
    have e1 : upd H p (.lst (ms.map V.int)) x = some o := by rw [upd_ne n1]; exact e
    rw [upd_ne (ne_of_none e1 hD)]; exact e1
  · rintro i H' _ ⟨_, h2, _⟩
    exact .of h2
  · rintro i x H' hx ⟨h1, h2, h3⟩
    rw [List.getElem?_map] at hx
    match e : ms[i]?, hx with
    | some v, hx =>
      have ex : V.int v = x := Option.some.inj hx
      subst ex
      have hi := (List.getElem?_eq_some_iff.mp e).1
      refine ⟨rfl, ?_⟩
      refine ⟨_, rfl, v, rfl, (ms.take i).map (fun x => V.int (absI x)), h1, by rw [List.length_map, List.length_take]; exact Nat.lt_of_le_of_lt (by omega : min i ms.length ≤ 100000) (by decide), ?_, ?_, fun y o e => ?_⟩
      · rw [upd_same, List.take_add_one, e, List.map_append]; rfl
      · rw [upd_ne npD]; exact h2
      · rw [upd_ne (fun z => by
          rw [z] at e
          have e1 : upd H p (.lst (ms.map V.int)) Dl = some o := by
            rw [upd_ne (ne_of_none e hp)]; exact e
          rw [e1] at hD; cases hD)]
        exact h3 y o e
  · rintro H' ⟨h1, h2, h3⟩
    rw [List.length_map, List.take_of_length_le (Nat.le_refl _)] at h1
    refine ⟨by show 4 ≤ sizeLine; decide, fun b hb => ?_⟩
    have nDb : Dl ≠ b := ne_of_none h1 hb
    refine q b Dl _ (fun x o _ e => by rw [upd_ne (ne_of_none (h3 x o e) hb)]; exact h3 x o e) ⟨fun x hx => ?_, fun b' c' e => ?_⟩
    · rcases hx with rfl | rfl | hx
      · rw [upd_same]; simp
      · rw [upd_ne nDb, h1]; simp
      · exact hx.elim
    · have : (b, Dl) = (b', c') := Option.some.inj e
      cases this
      refine ⟨.inl rfl, .inr (.inl rfl), 0, 1234567891, 0, ms.map absI, upd_same, by rw [upd_ne nDb, h1, List.map_map]; rfl, nDb, by decide, by decide, by decide, fun x hx => ?_⟩
      obtain ⟨y, _, rfl⟩ := List.mem_map.mp hx
      exact absI_nn y
theorem ok__law_take (T : Txt K mg) : FnOk P w K mg base CX0 1 T.f__law_take T.d__law_take ["_law_bag_here", "_law_many"] (spM K 2 takeM) := by
  refine fnOk_of (k := 0) T.F__law_take sc__law_take (fun vs H Q E h => spM_len h) (fun cdv A outer s H vs Q E hr h => ⟨_, PSs.nox
    (C8.pss_cut (ps_if (pt_cmpR op_eq (pe_ix ix_list (pv 0) pe_int (fun _ _ => rfl)) pe_int (nomark _))
        (pss_cons (ps_set (i := 2) sc__law_take.nd rfl (Or.inl rfl) pe_int)
        (C8.pss_cut (ps_if (pt_cmpR op_lt (pe_ix ix_list (pv 0) pe_int (fun _ _ => rfl)) (pe_callB call_len_seq (by rfl) T.z_len PySem.boot_len (pa_cons (pe_ix ix_list (pv 0) pe_int (fun _ _ => rfl)) pa_nil)) (nomark _))
          (pss_one (ps_set (i := 2) sc__law_take.nd rfl (Or.inl rfl) (pe_ix ix_list (pe_ix ix_list (pv 0) pe_int (fun _ _ => rfl)) (pe_ix ix_list (pv 0) pe_int (fun _ _ => rfl)) (fun _ _ => rfl)))) pss_nil)
        (pss_cons (ps_augS (pv 0) pe_int pget_lst pe_int ip_add set_list)
        (C8.pss_cut (ps_if (pt_cmpR op_ge (pv 2) pe_int (nomark _)) (pss_one (ps_asg (pv 2) (pg_sub (pv 0) pe_int set_list))) pss_nil)
        (pss_cons (ps_set (i := 3) sc__law_take.nd rfl (Or.inl rfl) (pe_op op_add (pe_op op_mod (pe_callTy call_int1' (by rfl) T.z_int bt_int (pa_cons (pv 2) pa_nil)) pe_int) (pe_op op_mul pe_int (pe_ix ix_list (pv 0) pe_int (fun _ _ => rfl)))))
        (pss_one (ps_asg (pe_op op_mod (pe_callTy call_int1' (by rfl) T.z_int bt_int (pa_cons (pe_op op_add (pe_op op_mul (pe_ix ix_list (pv 0) pe_int (fun _ _ => rfl)) pe_int) (pv 3)) pa_nil)) pe_int) (pg_sub (pv 0) pe_int set_list)))))))) pss_nil)
    (pss_cons (ps_if (pt_cmpR op_gt (pe_ix ix_list (pv 0) pe_int (fun _ _ => rfl)) pe_int (nomark _))
        (pss_cons (ps_set (i := 4) sc__law_take.nd rfl (Or.inl rfl) (pe_op op_mod (pe_callTy call_int1' (by rfl) T.z_int bt_int (pa_cons (pe_ix ix_list (pv 0) pe_int (fun _ _ => rfl)) pa_nil)) (pv 1)))
        (pss_cons (ps_asg (pe_op op_fdivW (pe_ix ix_list (pv 0) pe_int (fun _ _ => rfl)) (pv 1)) (pg_sub (pv 0) pe_int set_list))
        (pss_one (ps_ret (pv 4))))) pss_nil)
    (pss_cons (ps_set (i := 5) sc__law_take.nd rfl (Or.inl rfl) (pe_op op_mod (pe_callTy call_int1' (by rfl) T.z_int bt_int (pa_cons (pe_op op_mul (pe_op op_add (pe_ix ix_list (pv 0) pe_int (fun _ _ => rfl)) pe_int) pe_int) pa_nil)) pe_int))
    (pss_cons (ps_set (i := 6) sc__law_take.nd rfl (Or.inl rfl) (pe_op op_mod (pe_callTy call_int1' (by rfl) T.z_int bt_int (pa_cons (pe_op op_mul (pe_op op_mod (pe_callTy call_int1' (by rfl) T.z_int bt_int (pa_cons (pe_op op_mul (pv 5) (pv 5)) pa_nil)) pe_int) pe_int) pa_nil)) pe_int))
    (pss_cons (ps_if (pt_cmpR op_gt (pv 1) pe_int (nomark _)) (pss_one (ps_ret (pe_op op_mod (pe_callTy call_int1' (by rfl) T.z_int bt_int (pa_cons (pe_op op_add (pe_op op_mul (pv 6) pe_int) (pv 5)) pa_nil)) (pv 1)))) pss_nil)
    (pss_one (ps_ret (pe_op op_mod (pe_callTy call_int1' (by rfl) T.z_int bt_int (pa_cons (pe_op op_fdivW (pv 6) pe_int) pa_nil)) (pv 1))))))))), ?_⟩)
  obtain ⟨b, c, m, z, t, n, cells, rfl, hm0, hm9, hb, hc, hz, ht, hn, hcells, ncb, k⟩ := spTake_inv h
  refine ⟨fun σ H1 => ∃ z t n y2 y3, σ = [some (.ref b), some (.int m), y2, y3, none, none, none] ∧ 0 ≤ z ∧ 0 ≤ t ∧ 0 ≤ n ∧ H1 b = some (.lst [.int z, .int t, .int n, .ref c]) ∧ ∀ a, a ≠ b → H1 a = H a, ?_, ?_⟩
  · refine ⟨_, rfl, b, _, 0, _, rfl, rfl, .of hb, atI_nat (j := 0) rfl, rfl, _, rfl, ite2 (fun _ => ?_) (fun _ => ⟨z, t, n, none, none, rfl, hz, ht, hn, hb, fun _ _ => rfl⟩)⟩
    -- the cell
    refine ⟨fun σ H1 => ∃ x, σ = [some (.ref b), some (.int m), some (.int x), none, none, none, none] ∧ 0 ≤ x ∧ H1 = H, ?_, ?_⟩
    · refine ⟨_, rfl, b, _, 2, _, rfl, rfl, .of hb, atI_nat (j := 2) rfl, _, rfl, b, _, 3, _, rfl, rfl, .of hb, atI_nat (j := 3) rfl, c, _, rfl, .inl (.of hc), n, _, rfl, rfl, _, rfl, ite2 (fun lt => ?_) (fun _ => ⟨0, rfl, Int.le_refl 0, rfl⟩)⟩
      have lt' : n < ((cells.map V.int).length : Int) := of_decide_eq_true lt
      rw [List.length_map] at lt'
      obtain ⟨j, rfl⟩ : ∃ j : Nat, n = (j : Int) := ⟨n.toNat, by omega⟩
      have hj : j < cells.length := by omega
      have ej : (cells.map V.int)[j]? = some (.int cells[j]) := by rw [List.getElem?_map, List.getElem?_eq_getElem hj]; rfl
      exact ⟨_, rfl, b, _, 3, _, rfl, rfl, .of hb, atI_nat (j := 3) rfl, _, rfl, b, _, 2, _, rfl, rfl, .of hb, atI_nat (j := 2) rfl, c, _, _, _, rfl, rfl, .of hc, atI_nat ej, cells[j], rfl, hcells _ (List.getElem_mem hj), rfl⟩
    · rintro σ H1 ⟨x, rfl, hx, rfl⟩
      refine ⟨_, rfl, b, _, 2, _, rfl, rfl, .of hb, atI_nat (j := 2) rfl, n, 1, rfl, rfl, b, _, 2, 2, rfl, rfl, hb, rfl, ?_⟩
      refine ⟨fun σ H2 => ∃ z2, σ = [some (.ref b), some (.int m), some (.int x), none, none, none, none] ∧ 0 ≤ z2 ∧ H2 b = some (.lst [.int z2, .int t, .int (n + 1), .ref c]) ∧ ∀ a, a ≠ b → H2 a = H1 a, ?_, ?_⟩
      · refine ⟨_, rfl, x, 1000000000000000000, rfl, rfl, _, rfl, ite2 (fun _ => ?_) (fun _ => ⟨z, rfl, hz, upd_same, fun a na => upd_ne na⟩)⟩
        exact ⟨_, rfl, _, rfl, b, _, 0, 0, rfl, rfl, upd_same, rfl, x, rfl, hx, upd_same, fun a na => by rw [upd_ne na, upd_ne na]⟩
      · rintro σ H2 ⟨z2, rfl, hz2, hb2, hne⟩
        refine ⟨_, rfl, .inl ⟨_, rfl, _, _, rfl, rfl, (by show (0 : Int) < 2147483647; decide), _, rfl, b, _, 2, _, rfl, rfl, .of hb2, atI_nat (j := 2) rfl, _, _, rfl, rfl, .inl (by decide), _, _, rfl, rfl, ?_⟩⟩
        have hp1 : 0 ≤ x % 2147483647 := Int.emod_nonneg _ (by decide)
        refine ⟨_, rfl, b, _, 1, _, rfl, rfl, .of hb2, atI_nat (j := 1) rfl, _, _, rfl, rfl, .inr (by decide), _, rfl, _, _, rfl, rfl, .inl ⟨_, rfl, _, _, rfl, rfl, (by show (0 : Int) < 2147483647; decide), _, rfl, b, _, 1, 1, rfl, rfl, hb2, rfl, ?_⟩⟩
        exact ⟨z2, _, n + 1, _, _, rfl, hz2, Int.emod_nonneg _ (by decide), by omega, upd_same, fun a na => by rw [upd_ne na, hne a na]⟩
  · rintro σ H1 ⟨z, t, n, y2, y3, rfl, hz, ht, hn, hb1, hne⟩
    have fin : ∀ r z' t' n' H', 0 ≤ r → r < m → 0 ≤ z' → 0 ≤ t' → 0 ≤ n' → H' b = some (.lst [.int z', .int t', .int n', .ref c]) → (∀ a, a ≠ b → H' a = H1 a) → Q (.int r) H' :=
      fun r z' t' n' H' r0 r1 a1 a2 a3 e1 e2 => k r z' t' n' H' r0 r1 a1 a2 a3 e1 fun a na => by rw [e2 a na, hne a na]
    refine ⟨_, rfl, b, _, 0, _, rfl, rfl, .of hb1, atI_nat (j := 0) rfl, _, _, rfl, rfl, _, rfl, ite2 (fun _ => ?_) (fun _ => ?_)⟩
    · refine ⟨_, rfl, b, _, 0, _, rfl, rfl, .of hb1, atI_nat (j := 0) rfl, .inl ⟨_, rfl, _, rfl, _, _, rfl, rfl, hm0, ?_⟩⟩
      refine ⟨_, rfl, b, _, 0, _, rfl, rfl, .of hb1, atI_nat (j := 0) rfl, _, rfl, _, _, rfl, rfl, ⟨hm0, hm9⟩, _, rfl, b, _, 0, 0, rfl, rfl, hb1, rfl, ?_⟩
      exact ⟨_, rfl, fin _ _ _ _ _ (Int.emod_nonneg _ (by omega)) (Int.emod_lt_of_pos _ hm0) (Int.ediv_nonneg hz (by omega)) ht hn upd_same fun a na => upd_ne na⟩
    · refine ⟨_, rfl, b, _, 1, _, rfl, rfl, .of hb1, atI_nat (j := 1) rfl, _, _, rfl, rfl, _, _, rfl, rfl, .inr (by decide), .inl ⟨_, rfl, _, _, rfl, rfl, (by show (0 : Int) < 1000000007; decide), ?_⟩⟩
      have b5 : ∀ x : Int, 0 ≤ x % 1000000007 ∧ x % 1000000007 < 1000000007 := fun x => ⟨Int.emod_nonneg _ (by decide), Int.emod_lt_of_pos _ (by decide)⟩
      generalize h5 : (t + 1) * 39373 % 1000000007 = bg
      have hbg := b5 ((t + 1) * 39373)
      rw [h5] at hbg
      refine ⟨_, rfl, _, rfl, _, _, rfl, rfl, .inl ⟨by omega, by omega⟩, .inl ⟨_, rfl, _, _, rfl, rfl, (by show (0 : Int) < 998244353; decide), _, _, rfl, rfl, .inr (by decide), .inl ⟨_, rfl, _, _, rfl, rfl, (by show (0 : Int) < 998244353; decide), ?_⟩⟩⟩
      refine ⟨_, rfl, _, _, rfl, rfl, _, rfl, ite2 (fun _ => ?_) (fun _ => ?_)⟩
      · exact ⟨_, rfl, _, _, rfl, rfl, .inr (by decide), _, rfl, _, _, rfl, rfl, .inl ⟨_, rfl, _, rfl, _, _, rfl, rfl, hm0, fin _ _ _ _ _ (Int.emod_nonneg _ (by omega)) (Int.emod_lt_of_pos _ hm0) hz ht hn hb1 fun _ _ => rfl⟩⟩
      · exact ⟨_, rfl, _, _, rfl, rfl, ⟨by decide, by decide⟩, .inl ⟨_, rfl, _, rfl, _, _, rfl, rfl, hm0, fin _ _ _ _ _ (Int.emod_nonneg _ (by omega)) (Int.emod_lt_of_pos _ hm0) hz ht hn hb1 fun _ _ => rfl⟩⟩
end
def m_law (c : Cs) : MS := (sSeq (sFor (miRng1 (mCons (mC (.int 4)) mNil)) (gvName 2) (sSeq (sAsg (mBin addF (mLc (miRng1 (mCons (mC (.int 2)) mNil)) (gvName 4) mYes (mFn 2 (m__law_drawn_spans c) [] (mCons (mVar 1) (mCons (mC (.int 8)) mNil))) [4]) (mLst (mCons (mBin ixF (mLst (mCons (mLst mNil) (mCons (mLst (mCons (mTup (mCons (mC (.int 0)) (mCons (mBin powF (mC (.int 10)) (mC (.int 9))) mNil))) mNil)) mNil))) (mFn 2 takeM [] (mCons (mVar 1) (mCons (mC (.int 2)) mNil)))) mNil))) (gvName 3))
    (sSeq (sAsg (mLc (miList (mVar 3)) (gvName 6) mYes (mMake c.Days 1 (m_Days___init__ c) [] (mCons (mFn 2 (m__law_mixed c) [] (mCons (mVar 1) (mCons (mVar 6) mNil))) mNil)) [6]) (gvName 5))
    (sSeq (sPar 7 8 (mCons (mFn 2 takeM [] (mCons (mVar 1) (mCons (mC (.int 40)) mNil))) (mCons (mFn 2 takeM [] (mCons (mVar 1) (mCons (mC (.int 3)) mNil))) mNil)))
    (sSeq (sPar 9 10 (mCons (mFn 2 (m__law_has_day c) [] (mCons (mBin ixF (mVar 3) (mVar 8)) (mCons (mVar 7) mNil))) (mCons (mFn 1 (m__law_points c) [] (mCons (mLst (mCons (mBin ixF (mVar 3) (mVar 8)) mNil)) mNil)) mNil)))
    (sSeq (sAsg (mLst (mCons (mFn 4 (m__law_later c) [] (mCons (mBin ixF (mVar 3) (mVar 8)) (mCons (mVar 10) (mCons (mVar 7) (mCons (mNotV (mVar 9)) mNil))))) (mCons (mFn 4 (m__law_later c) [] (mCons (mBin ixF (mVar 3) (mVar 8)) (mCons (mVar 10) (mCons (mVar 7) (mCons (mC (.bl true)) mNil))))) mNil))) (gvName 11))
    (sSeq (sIf (mTest (mBin neF (mCall reprG (mCons (mLst (mCons (mMeth c.Days "turn" 2 (m_Days_turn c) [] (mBin ixF (mVar 5) (mVar 8)) (mCons (mVar 7) mNil)) (mCons (mMeth c.Days "beyond" 2 (m_Days_beyond c) [] (mBin ixF (mVar 5) (mVar 8)) (mCons (mVar 7) mNil)) mNil))) mNil)) (mCall reprG (mCons (mVar 11) mNil)))) (sRet (mC (.bl false))) sNext)
    (sSeq (sAsg (mReprI c.Days (m_Days___repr__ c) (mCons (mVar 5) mNil)) (gvName 12))
    (sSeq (sFor (miRng1 (mCons (mC (.int 3)) mNil)) (gvName 13) (sFor (miZip (mCons (mVar 3) (mCons (mVar 5) mNil))) (gvTup 2 (gvCons (gvName 6) (gvCons (gvName 14) gvNil))) (sSeq (sAsg (mFn 1 (m__law_points c) [] (mCons (mLst (mCons (mVar 6) mNil)) mNil)) (gvName 10))
    (sSeq (sAsg (mLc (miList (mVar 10)) (gvName 7) (mTru (mFn 2 (m__law_has_day c) [] (mCons (mVar 6) (mCons (mVar 7) mNil)))) (mVar 7) [7]) (gvName 15))
    (sSeq (sIf (mTest (mBin neF (mCall reprG (mCons (mMeth c.Days "earliest" 1 (m_Days_earliest c) [] (mVar 14) mNil) mNil)) (mCall reprG (mCons (mBin ixF (mBin addF (mVar 15) (mLst (mCons (mC .non) mNil))) (mC (.int 0))) mNil)))) (sRet (mC (.bl false))) sNext)
    (sSeq (sOwn 16 (mCons (mC (.int 0)) (mCons (mBin powF (mC (.int 10)) (mC (.int 9))) (mCons (mFn 2 takeM [] (mCons (mVar 1) (mCons (mBin addF (mBin powF (mC (.int 10)) (mC (.int 9))) (mC (.int 1))) mNil))) (mCons (mFn 2 takeM [] (mCons (mVar 1) (mCons (mC (.int 40)) mNil))) mNil)))))
    (sSeq (sFor (miList (mVar 10)) (gvName 17) (sExt 16 (mLc (miTup (mTup (mCons (mBin subF (mVar 17) (mC (.int 1))) (mCons (mVar 17) (mCons (mBin addF (mVar 17) (mC (.int 1))) mNil))))) (gvName 7) (mTest (mChain leF leF (mC (.int 0)) (mVar 7) (mBin powF (mC (.int 10)) (mC (.int 9))))) (mVar 7) [7])))
    (sFrz 16 (sFor (miList (mVar 16)) (gvName 7) (sSeq (sAsg (mFn 2 (m__law_has_day c) [] (mCons (mVar 6) (mCons (mVar 7) mNil))) (gvName 9))
    (sSeq (sAsg (mLst (mCons (mFn 4 (m__law_later c) [] (mCons (mVar 6) (mCons (mVar 10) (mCons (mVar 7) (mCons (mC (.bl true)) mNil))))) (mCons (mFn 4 (m__law_later c) [] (mCons (mVar 6) (mCons (mVar 10) (mCons (mVar 7) (mCons (mNotV (mVar 9)) mNil))))) mNil))) (gvName 11))
    (sIf (mTest (mBin neF (mCall reprG (mCons (mLst (mCons (mMeth c.Days "beyond" 2 (m_Days_beyond c) [] (mVar 14) (mCons (mVar 7) mNil)) (mCons (mMeth c.Days "turn" 2 (m_Days_turn c) [] (mVar 14) (mCons (mVar 7) mNil)) mNil))) mNil)) (mCall reprG (mCons (mVar 11) mNil)))) (sRet (mC (.bl false))) sNext))))))))))))
    (sIf (mTest (mBin neF (mReprI c.Days (m_Days___repr__ c) (mCons (mVar 5) mNil)) (mVar 12))) (sRet (mC (.bl false))) sNext))))))))))
    (sRet (mC (.bl true))))
def law0 : Rho := .no :: .val .bag :: List.replicate 16 .no
section
variable {P : Program} {w : World} {K : PySem.W.Frag} {mg : Str → Option Value} {base : Heap}
theorem ok_law (T : Txt K mg) (G__law_bag : FnOk P w K mg base CX0 1 T.f__law_bag T.d__law_bag ["_law_script"] (spBag K)) (G_Days___repr__ : FnW P w K mg base CX0 2 T.f_Days___repr__ T.d_Days___repr__ ["self"] (spM K 1 (m_Days___repr__ T.cs))) (G_Days___init__ : FnOk P w K mg base CX0 5 T.f_Days___init__ T.d_Days___init__ ["self", "spans"] (spI K T.cs.Days 1 (m_Days___init__ T.cs))) (G__law_take : FnOk P w K mg base CX0 1 T.f__law_take T.d__law_take ["_law_bag_here", "_law_many"] (spM K 2 m__law_take)) (G__law_has_day : FnOk P w K mg base CX0 1 T.f__law_has_day T.d__law_has_day ["_law_spans", "_law_day"] (spM K 2 (m__law_has_day T.cs))) (G__law_points : FnOk P w K mg base CX0 1 T.f__law_points T.d__law_points ["_law_several"] (spM K 1 (m__law_points T.cs))) (G__law_later : FnOk P w K mg base CX0 2 T.f__law_later T.d__law_later ["_law_spans", "_law_points_here", "_law_day", "_law_wanted"] (spM K 4 (m__law_later T.cs))) (G__law_drawn_spans : FnOk P w K mg base CX0 2 T.f__law_drawn_spans T.d__law_drawn_spans ["_law_bag_here", "_law_many"] (spM K 2 (m__law_drawn_spans T.cs))) (G__law_mixed : FnOk P w K mg base CX0 2 T.f__law_mixed T.d__law_mixed ["_law_bag_here", "_law_things"] (spM K 2 (m__law_mixed T.cs))) (G_Days_turn : FnOk P w K mg base CX0 8 T.f_Days_turn T.d_Days_turn ["self", "day"] (spM K 2 (m_Days_turn T.cs))) (G_Days_beyond : FnOk P w K mg base CX0 1 T.f_Days_beyond T.d_Days_beyond ["self", "day"] (spM K 2 (m_Days_beyond T.cs))) (G_Days_earliest : FnOk P w K mg base CX0 1 T.f_Days_earliest T.d_Days_earliest ["self"] (spM K 1 (m_Days_earliest T.cs))) (hlaw : m_law T.cs { nx := fun _ => False, rt := fun d => d = .bl true } law0) : FnG P w K mg base CX0 9 T.f_law T.d_law ["_law_script"] (spLaw K) := by
  refine fnG_of (k := 8) T.F_law sc_law (fun vs H Q E h => spLaw_len h) (fun cdv A outer s H vs Q E hr hq h => ?_)
  refine ⟨_, PSs.nox
    (pss_cons (ps_set (i := 1) sc_law.nd rfl (by first | exact Or.inl rfl | exact Or.inr rfl) (pe_call G__law_bag (hr.mono (by decide)) rfl T.g__law_bag T.F__law_bag.kp T.b__law_bag .nil pass0 (pa_cons (pv 0) pa_nil)))
      (pss_cons (ps_for PassesOwn.never rfl (pi_range1 (by rfl) T.z_range (pa_cons pe_int pa_nil)) (pg_name (i := 2) sc_law.nd rfl (by first | exact Or.inl rfl | exact Or.inr rfl)) (pss_cons (ps_set (i := 3) sc_law.nd rfl (by first | exact Or.inl rfl | exact Or.inr rfl) (pe_op (addK (K := K) rfl) (pe_lc (own := [("_law_k", 4)]) rfl sc_law.nd (pi_range1 (by rfl) T.z_range (pa_cons pe_int pa_nil)) (blkOk_by (N := N_law) (sc := defScope s_law) (by decide +kernel)) (fun _ _ _ _ _ => (pg_name (i := 4) sc_law.nd rfl (by first | exact Or.inl rfl | exact Or.inr rfl))) (fun _ _ _ _ _ => pts_nil) (fun _ _ _ _ _ => (pe_call G__law_drawn_spans (hr.mono (by decide)) rfl T.g__law_drawn_spans T.F__law_drawn_spans.kp T.b__law_drawn_spans .nil pass0 (pa_cons (pv 1) (pa_cons pe_int pa_nil))))) (pe_lst (pa_cons (pe_ix (ixK (K := K) rfl) (pe_lst (pa_cons (pe_lst pa_nil) (pa_cons (pe_lst (pa_cons (pe_tup (pa_cons pe_int (pa_cons (pe_op op_pow pe_int pe_int) pa_nil))) pa_nil)) pa_nil))) (pe_call G__law_take (hr.mono (by decide)) rfl T.g__law_take T.F__law_take.kp T.b__law_take .nil pass0 (pa_cons (pv 1) (pa_cons pe_int pa_nil))) (fun _ _ => rfl)) pa_nil))))
      (pss_cons (ps_setLc (i := 5) (own := [("_law_spans", 6)]) rfl sc_law.nd rfl rfl (sw_true rfl rfl rfl (by decide +kernel)) (pi_lstK (K := K) rfl (pv 3)) (blkOk_by (N := N_law) (sc := defScope s_law) (by decide +kernel)) (fun _ _ _ _ _ => (pg_name (i := 6) sc_law.nd rfl (by first | exact Or.inl rfl | exact Or.inr rfl))) (fun _ _ _ _ _ => pts_nil) (fun _ _ _ _ _ => (pe_make T.mk_Days G_Days___init__ (hr.mono (by decide)) rfl T.g_Days T.b_Days___init__ .nil pass0 (pa_cons (pe_call G__law_mixed (hr.mono (by decide)) rfl T.g__law_mixed T.F__law_mixed.kp T.b__law_mixed .nil pass0 (pa_cons (pv 1) (pa_cons (pv 6) pa_nil))) pa_nil))))
      (pss_cons (ps_par (i := 7) (j := 8) rfl sc_law.nd rfl rfl (by decide) rfl rfl (pa_cons (pe_call G__law_take (hr.mono (by decide)) rfl T.g__law_take T.F__law_take.kp T.b__law_take .nil pass0 (pa_cons (pv 1) (pa_cons pe_int pa_nil))) (pa_cons (pe_call G__law_take (hr.mono (by decide)) rfl T.g__law_take T.F__law_take.kp T.b__law_take .nil pass0 (pa_cons (pv 1) (pa_cons pe_int pa_nil))) pa_nil)) (by rfl))
      (pss_cons (ps_par (i := 9) (j := 10) rfl sc_law.nd rfl rfl (by decide) rfl rfl (pa_cons (pe_call G__law_has_day (hr.mono (by decide)) rfl T.g__law_has_day T.F__law_has_day.kp T.b__law_has_day .nil pass0 (pa_cons (pe_ix (ixK (K := K) rfl) (pv 3) (pv 8) (fun _ _ => rfl)) (pa_cons (pv 7) pa_nil))) (pa_cons (pe_call G__law_points (hr.mono (by decide)) rfl T.g__law_points T.F__law_points.kp T.b__law_points .nil pass0 (pa_cons (pe_lst (pa_cons (pe_ix (ixK (K := K) rfl) (pv 3) (pv 8) (fun _ _ => rfl)) pa_nil)) pa_nil)) pa_nil)) (by rfl))
      (pss_cons (ps_set (i := 11) sc_law.nd rfl (by first | exact Or.inl rfl | exact Or.inr rfl) (pe_lst (pa_cons (pe_call G__law_later (hr.mono (by decide)) rfl T.g__law_later T.F__law_later.kp T.b__law_later .nil pass0 (pa_cons (pe_ix (ixK (K := K) rfl) (pv 3) (pv 8) (fun _ _ => rfl)) (pa_cons (pv 10) (pa_cons (pv 7) (pa_cons (pe_not (pv 9)) pa_nil))))) (pa_cons (pe_call G__law_later (hr.mono (by decide)) rfl T.g__law_later T.F__law_later.kp T.b__law_later .nil pass0 (pa_cons (pe_ix (ixK (K := K) rfl) (pv 3) (pv 8) (fun _ _ => rfl)) (pa_cons (pv 10) (pa_cons (pv 7) (pa_cons pe_bl pa_nil))))) pa_nil))))
      (pss_cons (ps_if (pt_cmpR (neK (K := K) rfl hr.units) (pe_callB (reprK2 (K := K) rfl hq hr) (by rfl) T.z_repr bt_repr (pa_cons (pe_lst (pa_cons (pe_meth (pe_ix (ixK (K := K) rfl) (pv 5) (pv 8) (fun _ _ => rfl)) T.cl_Days ⟨T.at_Days_turn, T.fn_Days_turn, T.F_Days_turn.kp⟩ G_Days_turn (hr.mono (by decide)) T.b_Days_turn .nil pass0 (pa_cons (pv 7) pa_nil)) (pa_cons (pe_meth (pe_ix (ixK (K := K) rfl) (pv 5) (pv 8) (fun _ _ => rfl)) T.cl_Days ⟨T.at_Days_beyond, T.fn_Days_beyond, T.F_Days_beyond.kp⟩ G_Days_beyond (hr.mono (by decide)) T.b_Days_beyond .nil pass0 (pa_cons (pv 7) pa_nil)) pa_nil))) pa_nil)) (pe_callB (reprK2 (K := K) rfl hq hr) (by rfl) T.z_repr bt_repr (pa_cons (pv 11) pa_nil)) (nomark _)) (pss_one (ps_ret pe_bl)) pss_nil)
      (pss_cons (ps_set (i := 12) sc_law.nd rfl (by first | exact Or.inl rfl | exact Or.inr rfl) (pe_callB (cr_reprI G_Days___repr__ (hr.mono (by decide)) hq T.at_Days___repr__ T.fn_Days___repr__ T.b_Days___repr__ pass0) (by rfl) T.z_repr bt_repr (pa_cons (pv 5) pa_nil)))
      (pss_cons (ps_for PassesOwn.never rfl (pi_range1 (by rfl) T.z_range (pa_cons pe_int pa_nil)) (pg_name (i := 13) sc_law.nd rfl (by first | exact Or.inl rfl | exact Or.inr rfl)) (pss_one (ps_for PassesOwn.never rfl (pi_zipK (K := K) rfl (by rfl) T.z_zip (pa_cons (pv 3) (pa_cons (pv 5) pa_nil))) (pg_tupK (K := K) (n := 2) rfl rfl (pgs_cons (pg_name (i := 6) sc_law.nd rfl (by first | exact Or.inl rfl | exact Or.inr rfl)) (pgs_cons (pg_name (i := 14) sc_law.nd rfl (by first | exact Or.inl rfl | exact Or.inr rfl)) pgs_nil))) (pss_cons (ps_set (i := 10) sc_law.nd rfl (by first | exact Or.inl rfl | exact Or.inr rfl) (pe_call G__law_points (hr.mono (by decide)) rfl T.g__law_points T.F__law_points.kp T.b__law_points .nil pass0 (pa_cons (pe_lst (pa_cons (pv 6) pa_nil)) pa_nil)))
      (pss_cons (ps_setLc (i := 15) (own := [("_law_day", 7)]) rfl sc_law.nd rfl rfl (sw_true rfl rfl rfl (by decide +kernel)) (pi_lstK (K := K) rfl (pv 10)) (blkOk_by (N := N_law) (sc := defScope s_law) (by decide +kernel)) (fun _ _ _ _ _ => (pg_name (i := 7) sc_law.nd rfl (by first | exact Or.inl rfl | exact Or.inr rfl))) (fun _ _ _ _ _ => pts_one (pt_truthK (K := K) rfl (pe_call G__law_has_day (hr.mono (by decide)) rfl T.g__law_has_day T.F__law_has_day.kp T.b__law_has_day .nil pass0 (pa_cons (pv 6) (pa_cons (pv 7) pa_nil))))) (fun _ _ _ _ _ => (pv 7)))
      (pss_cons (ps_if (pt_cmpR (neK (K := K) rfl hr.units) (pe_callB (reprK2 (K := K) rfl hq hr) (by rfl) T.z_repr bt_repr (pa_cons (pe_meth0 (pv 14) T.cl_Days ⟨T.at_Days_earliest, T.fn_Days_earliest, T.F_Days_earliest.kp⟩ G_Days_earliest (hr.mono (by decide)) T.b_Days_earliest .nil pass0) pa_nil)) (pe_callB (reprK2 (K := K) rfl hq hr) (by rfl) T.z_repr bt_repr (pa_cons (pe_ix (ixK (K := K) rfl) (pe_op (addK (K := K) rfl) (pv 15) (pe_lst (pa_cons pe_non pa_nil))) pe_int (fun _ _ => rfl)) pa_nil)) (nomark _)) (pss_one (ps_ret pe_bl)) pss_nil)
      (pss_cons (ps_set (i := 16) sc_law.nd rfl (by first | exact Or.inl rfl | exact Or.inr rfl) (pe_lst (pa_cons pe_int (pa_cons (pe_op op_pow pe_int pe_int) (pa_cons (pe_call G__law_take (hr.mono (by decide)) rfl T.g__law_take T.F__law_take.kp T.b__law_take .nil pass0 (pa_cons (pv 1) (pa_cons (pe_op (addK (K := K) rfl) (pe_op op_pow pe_int pe_int) pe_int) pa_nil))) (pa_cons (pe_call G__law_take (hr.mono (by decide)) rfl T.g__law_take T.F__law_take.kp T.b__law_take .nil pass0 (pa_cons (pv 1) (pa_cons pe_int pa_nil))) pa_nil))))))
      (pss_cons (ps_for PassesOwn.never rfl (pi_lstK (K := K) rfl (pv 10)) (pg_name (i := 17) sc_law.nd rfl (by first | exact Or.inl rfl | exact Or.inr rfl)) (pss_one (ps_expr (pe_bm PySem.F.plainAttrs_list PySem.F.slot_list_extend PySem.F.type_list_extend mt_ext (pv 16) (pa_cons (pe_lc (own := [("_law_day", 7)]) rfl sc_law.nd (pi_tupK (K := K) rfl (pe_tup (pa_cons (pe_op op_sub (pv 17) pe_int) (pa_cons (pv 17) (pa_cons (pe_op (addK (K := K) rfl) (pv 17) pe_int) pa_nil))))) (blkOk_by (N := N_law) (sc := defScope s_law) (by decide +kernel)) (fun _ _ _ _ _ => (pg_name (i := 7) sc_law.nd rfl (by first | exact Or.inl rfl | exact Or.inr rfl))) (fun _ _ _ _ _ => pts_one (pt_chain op_le op_le pe_int (pv 7) (pe_op op_pow pe_int pe_int))) (fun _ _ _ _ _ => (pv 7))) pa_nil)))))
      (pss_one (ps_for PassesOwn.never rfl (pi_lstK (K := K) rfl (pv 16)) (pg_name (i := 7) sc_law.nd rfl (by first | exact Or.inl rfl | exact Or.inr rfl)) (pss_cons (ps_set (i := 9) sc_law.nd rfl (by first | exact Or.inl rfl | exact Or.inr rfl) (pe_call G__law_has_day (hr.mono (by decide)) rfl T.g__law_has_day T.F__law_has_day.kp T.b__law_has_day .nil pass0 (pa_cons (pv 6) (pa_cons (pv 7) pa_nil))))
      (pss_cons (ps_set (i := 11) sc_law.nd rfl (by first | exact Or.inl rfl | exact Or.inr rfl) (pe_lst (pa_cons (pe_call G__law_later (hr.mono (by decide)) rfl T.g__law_later T.F__law_later.kp T.b__law_later .nil pass0 (pa_cons (pv 6) (pa_cons (pv 10) (pa_cons (pv 7) (pa_cons pe_bl pa_nil))))) (pa_cons (pe_call G__law_later (hr.mono (by decide)) rfl T.g__law_later T.F__law_later.kp T.b__law_later .nil pass0 (pa_cons (pv 6) (pa_cons (pv 10) (pa_cons (pv 7) (pa_cons (pe_not (pv 9)) pa_nil))))) pa_nil))))
      (pss_one (ps_if (pt_cmpR (neK (K := K) rfl hr.units) (pe_callB (reprK2 (K := K) rfl hq hr) (by rfl) T.z_repr bt_repr (pa_cons (pe_lst (pa_cons (pe_meth (pv 14) T.cl_Days ⟨T.at_Days_beyond, T.fn_Days_beyond, T.F_Days_beyond.kp⟩ G_Days_beyond (hr.mono (by decide)) T.b_Days_beyond .nil pass0 (pa_cons (pv 7) pa_nil)) (pa_cons (pe_meth (pv 14) T.cl_Days ⟨T.at_Days_turn, T.fn_Days_turn, T.F_Days_turn.kp⟩ G_Days_turn (hr.mono (by decide)) T.b_Days_turn .nil pass0 (pa_cons (pv 7) pa_nil)) pa_nil))) pa_nil)) (pe_callB (reprK2 (K := K) rfl hq hr) (by rfl) T.z_repr bt_repr (pa_cons (pv 11) pa_nil)) (nomark _)) (pss_one (ps_ret pe_bl)) pss_nil))))))))))))))
      (pss_one (ps_if (pt_cmpR (neK (K := K) rfl hr.units) (pe_callB (cr_reprI G_Days___repr__ (hr.mono (by decide)) hq T.at_Days___repr__ T.fn_Days___repr__ T.b_Days___repr__ pass0) (by rfl) T.z_repr bt_repr (pa_cons (pv 5) pa_nil)) (pv 12) (nomark _)) (pss_one (ps_ret pe_bl)) pss_nil)))))))))))
      (pss_one (ps_ret pe_bl)))), ?_⟩
  exact law_body h (fun b =>
    (evs_seq (evs_for (evi_rng1 (eva_cons evd_int eva_nil)) evg_name (evs_seq (evs_asg (evd_op opd_add (evd_lc (evi_rng1 (eva_cons evd_int eva_nil)) evg_name (by decide) evt_yes (evd_call (fun _ _ => .nil) (eva_cons evd_var (eva_cons evd_int eva_nil)))) (evd_lst (eva_cons (evd_op opd_ix (evd_lst (eva_cons (evd_lst eva_nil) (eva_cons (evd_lst (eva_cons (evd_tup (eva_cons evd_int (eva_cons (evd_op opd_pow evd_int evd_int) eva_nil))) eva_nil)) eva_nil))) (evd_call (fun _ _ => .nil) (eva_cons evd_var (eva_cons evd_int eva_nil)))) eva_nil))) evg_name)
      (evs_seq (evs_asg (evd_lc (evi_list evd_var) evg_name (by decide) evt_yes (evd_make (fun _ _ => .nil) (eva_cons (evd_call (fun _ _ => .nil) (eva_cons evd_var (eva_cons evd_var eva_nil))) eva_nil))) evg_name)
      (evs_seq (evs_par (eva_cons (evd_call (fun _ _ => .nil) (eva_cons evd_var (eva_cons evd_int eva_nil))) (eva_cons (evd_call (fun _ _ => .nil) (eva_cons evd_var (eva_cons evd_int eva_nil))) eva_nil)))
      (evs_seq (evs_par (eva_cons (evd_call (fun _ _ => .nil) (eva_cons (evd_op opd_ix evd_var evd_var) (eva_cons evd_var eva_nil))) (eva_cons (evd_call (fun _ _ => .nil) (eva_cons (evd_lst (eva_cons (evd_op opd_ix evd_var evd_var) eva_nil)) eva_nil)) eva_nil)))
      (evs_seq (evs_asg (evd_lst (eva_cons (evd_call (fun _ _ => .nil) (eva_cons (evd_op opd_ix evd_var evd_var) (eva_cons evd_var (eva_cons evd_var (eva_cons (evd_notV evd_var) eva_nil))))) (eva_cons (evd_call (fun _ _ => .nil) (eva_cons (evd_op opd_ix evd_var evd_var) (eva_cons evd_var (eva_cons evd_var (eva_cons evd_bl eva_nil))))) eva_nil))) evg_name)
      (evs_seq (evs_if (evt_test (evd_op opd_ne (evd_cb calld_repr2 (eva_cons (evd_lst (eva_cons (evd_meth (fun _ _ => .nil) (evd_op opd_ix evd_var evd_var) (eva_cons evd_var eva_nil)) (eva_cons (evd_meth (fun _ _ => .nil) (evd_op opd_ix evd_var evd_var) (eva_cons evd_var eva_nil)) eva_nil))) eva_nil)) (evd_cb calld_repr2 (eva_cons evd_var eva_nil)))) (evs_ret evd_bl) evs_next)
      (evs_seq (evs_asg (evd_reprI (eva_cons evd_var eva_nil)) evg_name)
      (evs_seq (evs_for (evi_rng1 (eva_cons evd_int eva_nil)) evg_name (evs_for (evi_zip (eva_cons evd_var (eva_cons evd_var eva_nil))) (evg_tup (evgs_cons evg_name (evgs_cons evg_name evgs_nil))) (evs_seq (evs_asg (evd_call (fun _ _ => .nil) (eva_cons (evd_lst (eva_cons evd_var eva_nil)) eva_nil)) evg_name)
      (evs_seq (evs_asg (evd_lc (evi_list evd_var) evg_name (by decide) (evt_truK (evd_call (fun _ _ => .nil) (eva_cons evd_var (eva_cons evd_var eva_nil)))) evd_var) evg_name)
      (evs_seq (evs_if (evt_test (evd_op opd_ne (evd_cb calld_repr2 (eva_cons (evd_meth (fun _ _ => .nil) evd_var eva_nil) eva_nil)) (evd_cb calld_repr2 (eva_cons (evd_op opd_ix (evd_op opd_add evd_var (evd_lst (eva_cons evd_non eva_nil))) evd_int) eva_nil)))) (evs_ret evd_bl) evs_next)
      (evs_seq (evs_own (eva_cons evd_int (eva_cons (evd_op opd_pow evd_int evd_int) (eva_cons (evd_call (fun _ _ => .nil) (eva_cons evd_var (eva_cons (evd_op opd_add (evd_op opd_pow evd_int evd_int) evd_int) eva_nil))) (eva_cons (evd_call (fun _ _ => .nil) (eva_cons evd_var (eva_cons evd_int eva_nil))) eva_nil)))))
      (evs_seq (evs_for (evi_list evd_var) evg_name (evs_ext (evd_lc (evi_tup (evd_tup (eva_cons (evd_op opd_sub evd_var evd_int) (eva_cons evd_var (eva_cons (evd_op opd_add evd_var evd_int) eva_nil))))) evg_name (by decide) (evt_test (evd_chain opd_le opd_le evd_int evd_var (evd_op opd_pow evd_int evd_int))) evd_var)))
      (evs_frz (evs_for (evi_list evd_var) evg_name (evs_seq (evs_asg (evd_call (fun _ _ => .nil) (eva_cons evd_var (eva_cons evd_var eva_nil))) evg_name)
      (evs_seq (evs_asg (evd_lst (eva_cons (evd_call (fun _ _ => .nil) (eva_cons evd_var (eva_cons evd_var (eva_cons evd_var (eva_cons evd_bl eva_nil))))) (eva_cons (evd_call (fun _ _ => .nil) (eva_cons evd_var (eva_cons evd_var (eva_cons evd_var (eva_cons (evd_notV evd_var) eva_nil))))) eva_nil))) evg_name)
      (evs_if (evt_test (evd_op opd_ne (evd_cb calld_repr2 (eva_cons (evd_lst (eva_cons (evd_meth (fun _ _ => .nil) evd_var (eva_cons evd_var eva_nil)) (eva_cons (evd_meth (fun _ _ => .nil) evd_var (eva_cons evd_var eva_nil)) eva_nil))) eva_nil)) (evd_cb calld_repr2 (eva_cons evd_var eva_nil)))) (evs_ret evd_bl) evs_next))))))))))))
      (evs_if (evt_test (evd_op opd_ne (evd_reprI (eva_cons evd_var eva_nil)) evd_var)) (evs_ret evd_bl) evs_next))))))))))
      (evs_ret evd_bl))) hlaw
end

end K23

namespace DY
/-! ### days and spans -/
def top : Int := 1000000000
def has (S : List (Int × Int)) (d : Int) : Bool := S.any fun p => decide (p.1 ≤ d) && decide (d ≤ p.2)
theorem has_iff {S : List (Int × Int)} {d : Int} : has S d = true ↔ ∃ p ∈ S, p.1 ≤ d ∧ d ≤ p.2 := by
  unfold has
  rw [List.any_eq_true]
  simp only [Bool.and_eq_true, decide_eq_true_eq]
theorem has_no {S : List (Int × Int)} {d : Int} : has S d = false ↔ ∀ p ∈ S, ¬ (p.1 ≤ d ∧ d ≤ p.2) := by
  rw [← Bool.not_eq_true, has_iff]
  constructor
  · intro h p hp q; exact h ⟨p, hp, q⟩
  · rintro h ⟨p, hp, q⟩; exact h p hp q
theorem has_cons (p : Int × Int) (S : List (Int × Int)) (d : Int) : has (p :: S) d = ((decide (p.1 ≤ d) && decide (d ≤ p.2)) || has S d) := rfl
theorem has_app (S T : List (Int × Int)) (d : Int) : has (S ++ T) d = (has S d || has T d) := List.any_append
def Inr (S : List (Int × Int)) : Prop := ∀ p ∈ S, 0 ≤ p.1 ∧ p.1 ≤ top ∧ 0 ≤ p.2 ∧ p.2 ≤ top
structure Canon (F : List (Int × Int)) : Prop where
  far : F.Pairwise fun p q => p.2 + 1 < q.1
  ord : ∀ p ∈ F, p.1 ≤ p.2
theorem Canon.tail {p : Int × Int} {F : List (Int × Int)} (h : Canon (p :: F)) : Canon F := ⟨(List.pairwise_cons.mp h.far).2, fun q hq => h.ord q (List.mem_cons_of_mem _ hq)⟩
def First (P : Int → Bool) (d : Int) : Option Int → Prop
  | none => ∀ x, d < x → x ≤ top → P x = false
  | some x => d < x ∧ x ≤ top ∧ P x = true ∧ ∀ y, d < y → y < x → P y = false
theorem First.congr {P P' : Int → Bool} {d : Int} {r : Option Int} (h : First P d r) (e : ∀ x, d < x → x ≤ top → P x = P' x) : First P' d r := by
  cases r with
  | none => exact fun x h1 h2 => (e x h1 h2).symm.trans (h x h1 h2)
  | some x =>
    obtain ⟨h1, h2, h3, h4⟩ := h
    exact ⟨h1, h2, (e x h1 h2).symm.trans h3, fun y y1 y2 => (e y y1 (by omega)).symm.trans (h4 y y1 y2)⟩
theorem First.uniq {P : Int → Bool} {d : Int} {r r' : Option Int} (h : First P d r) (h' : First P d r') : r = r' := by
  cases r with
  | none =>
    cases r' with
    | none => rfl
    | some x => have := h x h'.1 h'.2.1; rw [h'.2.2.1] at this; cases this
  | some x =>
    cases r' with
    | none => have := h' x h.1 h.2.1; rw [h.2.2.1] at this; cases this
    | some y =>
      obtain ⟨a1, a2, a3, a4⟩ := h
      obtain ⟨b1, b2, b3, b4⟩ := h'
      have : ¬ x < y := fun z => by have := b4 x a1 z; rw [a3] at this; cases this
      have : ¬ y < x := fun z => by have := a4 y b1 z; rw [b3] at this; cases this
      have : x = y := by omega
      rw [this]
/-- the first later day, from the fewest spans -/
def bey (F : List (Int × Int)) (d : Int) : Option Int := match F with
  | [] => none
  | p :: F => if d < p.2 then some (if d + 1 > p.1 then d + 1 else p.1) else bey F d
theorem bey_first : ∀ {F : List (Int × Int)} (d : Int), Canon F → Inr F → First (has F) d (bey F d)
  | [], d, _, _ => fun x _ _ => rfl
  | p :: F, d, hc, hr => by
    have hp := hc.ord p List.mem_cons_self
    have far := (List.pairwise_cons.mp hc.far).1
    have pr := hr p List.mem_cons_self
    unfold bey
    by_cases h : d < p.2
    · rw [if_pos h]
      have later : ∀ y, y ≤ p.2 → has F y = false := fun y hy => has_no.mpr fun q hq z => by have := far q hq; omega
      by_cases h2 : d + 1 > p.1
      · rw [if_pos h2]
        refine ⟨by omega, by omega, ?_, fun y y1 y2 => by omega⟩
        rw [has_cons, decide_eq_true (show p.1 ≤ d + 1 by omega), decide_eq_true (show d + 1 ≤ p.2 by omega)]; rfl
      · rw [if_neg h2]
        refine ⟨by omega, pr.2.1, ?_, fun y y1 y2 => ?_⟩
        · rw [has_cons, decide_eq_true (Int.le_refl _), decide_eq_true hp]; rfl
        · rw [has_cons, decide_eq_false (show ¬ p.1 ≤ y by omega), later y (by omega)]; rfl
    · rw [if_neg h]
      refine (bey_first d hc.tail fun q hq => hr q (List.mem_cons_of_mem _ hq)).congr fun x x1 _ => ?_
      rw [has_cons, decide_eq_false (show ¬ x ≤ p.2 by omega)]; simp
/-- the spans between -/
def gaps (a : Int) : List (Int × Int) → List (Int × Int)
  | [] => if a ≤ top then [(a, top)] else []
  | p :: F => if a ≤ p.1 - 1 then (a, p.1 - 1) :: gaps (p.2 + 1) F else gaps (p.2 + 1) F
theorem gaps_has : ∀ (F : List (Int × Int)) (a x : Int), Canon F → Inr F → (∀ p ∈ F, a ≤ p.1) → (has (gaps a F) x = true ↔ a ≤ x ∧ x ≤ top ∧ (has F x = false))
  | [], a, x, _, _, _ => by
    unfold gaps
    split
    · rw [has_cons]; simp [has]
    · simp [has]; omega
  | p :: F, a, x, hc, hr, hl => by
    have pr := hr p List.mem_cons_self
    have hp := hc.ord p List.mem_cons_self
    have far := (List.pairwise_cons.mp hc.far).1
    have ha := hl p List.mem_cons_self
    have ih := gaps_has F (p.2 + 1) x hc.tail (fun q hq => hr q (List.mem_cons_of_mem _ hq)) fun q hq => by have := far q hq; omega
    have lo : x ≤ p.2 → has F x = false := fun hy => has_no.mpr fun q hq z => by have := far q hq; omega
    unfold gaps
    split
    · rename_i h
      rw [has_cons, Bool.or_eq_true, ih, has_cons]
      simp only [Bool.and_eq_true, decide_eq_true_eq, Bool.or_eq_false_iff, Bool.and_eq_false_iff, decide_eq_false_iff_not]
      constructor
      · rintro (z | ⟨z1, z2, z3⟩)
        · exact ⟨z.1, by omega, .inl (by omega), lo (by omega)⟩
        · exact ⟨by omega, z2, .inr (by omega), z3⟩
      · rintro ⟨z1, z2, z3, z4⟩
        rcases z3 with z3 | z3
        · exact .inl ⟨z1, by omega⟩
        · exact .inr ⟨by omega, z2, z4⟩
    · rename_i h
      rw [ih, has_cons]
      simp only [Bool.or_eq_false_iff, Bool.and_eq_false_iff, decide_eq_false_iff_not]
      constructor
      · rintro ⟨z1, z2, z3⟩
        exact ⟨by omega, z2, .inr (by omega), z3⟩
      · rintro ⟨z1, z2, z3, z4⟩
        rcases z3 with z3 | z3
        · omega
        · exact ⟨by omega, z2, z4⟩
theorem gaps_inr : ∀ (F : List (Int × Int)) (a : Int), 0 ≤ a → Inr F → Inr (gaps a F)
  | [], a, ha, _ => by
    unfold gaps
    split
    · intro q hq
      rw [List.mem_singleton.mp hq]
      exact ⟨ha, by assumption, by show (0 : Int) ≤ top; decide, Int.le_refl _⟩
    · intro q hq; cases hq
  | p :: F, a, ha, hr => by
    have pr := hr p List.mem_cons_self
    have ih := gaps_inr F (p.2 + 1) (by omega) fun q hq => hr q (List.mem_cons_of_mem _ hq)
    unfold gaps
    split
    · intro q hq
      rcases List.mem_cons.mp hq with rfl | hq
      · exact ⟨ha, by show a ≤ top; omega, by show 0 ≤ p.1 - 1; omega, by show p.1 - 1 ≤ top; omega⟩
      · exact ih q hq
    · exact ih
theorem gaps_len : ∀ (F : List (Int × Int)) (a : Int), (gaps a F).length ≤ F.length + 1
  | [], a => by unfold gaps; split <;> simp
  | p :: F, a => by
    have ih := gaps_len F (p.2 + 1)
    unfold gaps
    split
    · simp only [List.length_cons]; omega
    · simp only [List.length_cons]; omega
theorem gaps_eq : ∀ (F : List (Int × Int)) (a : Int), ((a :: F.map (·.2 + 1)).zip (F.map (·.1 - 1) ++ [top])).filter (fun q => decide (q.1 ≤ q.2)) = gaps a F
  | [], a => by
    unfold gaps
    show [(a, top)].filter _ = _
    by_cases h : a ≤ top
    · simp [h]
    · simp [h]
  | p :: F, a => by
    have ih := gaps_eq F (p.2 + 1)
    unfold gaps
    show ((a, p.1 - 1) :: ((p.2 + 1) :: F.map (·.2 + 1)).zip (F.map (·.1 - 1) ++ [top])).filter _ = _
    by_cases h : a ≤ p.1 - 1
    · rw [if_pos h, List.filter_cons_of_pos (by simpa using h), ih]
    · rw [if_neg h, List.filter_cons_of_neg (by simpa using h), ih]
/-- the fewest spans: what the loop keeps -/
structure Kept (S : List (Int × Int)) (kept rest : List (Int × Int)) : Prop where
  can : Canon kept
  inr : Inr kept
  rin : Inr rest
  srt : rest.Pairwise fun p q => p.1 ≤ q.1
  ahd : ∀ p ∈ kept, ∀ q ∈ rest, p.1 ≤ q.1
  all : ∀ x, (has kept x || has rest x) = has S x
  len : kept.length + rest.length ≤ S.length
theorem has_empty {p : Int × Int} (h : p.1 > p.2) (S : List (Int × Int)) (x : Int) : has (p :: S) x = has S x := by
  rw [has_cons]
  by_cases h1 : p.1 ≤ x
  · rw [decide_eq_false (show ¬ x ≤ p.2 by omega)]; simp
  · rw [decide_eq_false h1]; rfl
theorem Kept.skip {S kept rest : List (Int × Int)} {p : Int × Int} (k : Kept S kept (p :: rest)) (h : p.1 > p.2) : Kept S kept rest :=
  ⟨k.can, k.inr, fun q hq => k.rin q (List.mem_cons_of_mem _ hq), (List.pairwise_cons.mp k.srt).2, fun q hq r hr => k.ahd q hq r (List.mem_cons_of_mem _ hr), fun x => by rw [← k.all x, has_empty h], by have := k.len; simp only [List.length_cons] at this; omega⟩
theorem has_one (p : Int × Int) (x : Int) : has [p] x = (decide (p.1 ≤ x) && decide (x ≤ p.2)) := by unfold has; simp
theorem Kept.push {S kept rest : List (Int × Int)} {p : Int × Int} (k : Kept S kept (p :: rest)) (h : p.1 ≤ p.2) (far : ∀ q ∈ kept, q.2 + 1 < p.1) : Kept S (kept ++ [p]) rest := by
  refine ⟨⟨?_, fun q hq => ?_⟩, fun q hq => ?_, fun q hq => k.rin q (List.mem_cons_of_mem _ hq), (List.pairwise_cons.mp k.srt).2, fun q hq r hr => ?_, fun x => ?_, by have := k.len; simp only [List.length_cons, List.length_append, List.length_nil] at this ⊢; omega⟩
  · rw [List.pairwise_append]
    exact ⟨k.can.far, List.pairwise_singleton _ _, fun q hq r hr => by rw [List.mem_singleton.mp hr]; exact far q hq⟩
  · rcases List.mem_append.mp hq with hq | hq
    · exact k.can.ord q hq
    · rw [List.mem_singleton.mp hq]; exact h
  · rcases List.mem_append.mp hq with hq | hq
    · exact k.inr q hq
    · rw [List.mem_singleton.mp hq]; exact k.rin p List.mem_cons_self
  · rcases List.mem_append.mp hq with hq | hq
    · exact k.ahd q hq r (List.mem_cons_of_mem _ hr)
    · rw [List.mem_singleton.mp hq]; exact (List.pairwise_cons.mp k.srt).1 r hr
  · rw [← k.all x, has_app, has_one, has_cons, Bool.or_assoc]
theorem Kept.join {S init rest : List (Int × Int)} {l p : Int × Int} (k : Kept S (init ++ [l]) (p :: rest)) (h : p.1 ≤ p.2) (near : p.1 ≤ l.2 + 1) : Kept S (init ++ [(l.1, if l.2 > p.2 then l.2 else p.2)]) rest := by
  have hl : l ∈ init ++ [l] := List.mem_append_right _ (List.mem_singleton.mpr rfl)
  have ol := k.can.ord l hl
  have rl := k.inr l hl
  have rp := k.rin p List.mem_cons_self
  have al := k.ahd l hl p List.mem_cons_self
  have far0 := List.pairwise_append.mp k.can.far
  have m2 : l.2 ≤ (if l.2 > p.2 then l.2 else p.2) ∧ p.2 ≤ (if l.2 > p.2 then l.2 else p.2) ∧ (if l.2 > p.2 then l.2 else p.2) ≤ top ∧ ((if l.2 > p.2 then l.2 else p.2) = l.2 ∨ (if l.2 > p.2 then l.2 else p.2) = p.2) := by
    split
    · exact ⟨by omega, by omega, by omega, .inl rfl⟩
    · exact ⟨by omega, by omega, by omega, .inr rfl⟩
  generalize (if l.2 > p.2 then l.2 else p.2) = m at m2
  obtain ⟨e1, e2, e3, e4⟩ := m2
  refine ⟨⟨?_, fun q hq => ?_⟩, fun q hq => ?_, fun q hq => k.rin q (List.mem_cons_of_mem _ hq), (List.pairwise_cons.mp k.srt).2, fun q hq r hr => ?_, fun x => ?_, by have := k.len; simp only [List.length_cons, List.length_append, List.length_nil] at this ⊢; omega⟩
  · rw [List.pairwise_append]
    exact ⟨far0.1, List.pairwise_singleton _ _, fun q hq r hr => by rw [List.mem_singleton.mp hr]; exact far0.2.2 q hq l (List.mem_singleton.mpr rfl)⟩
  · rcases List.mem_append.mp hq with hq | hq
    · exact k.can.ord q (List.mem_append_left _ hq)
    · rw [List.mem_singleton.mp hq]; show l.1 ≤ m; omega
  · rcases List.mem_append.mp hq with hq | hq
    · exact k.inr q (List.mem_append_left _ hq)
    · rw [List.mem_singleton.mp hq]; exact ⟨rl.1, rl.2.1, by show 0 ≤ m; omega, e3⟩
  · rcases List.mem_append.mp hq with hq | hq
    · exact k.ahd q (List.mem_append_left _ hq) r (List.mem_cons_of_mem _ hr)
    · rw [List.mem_singleton.mp hq]; exact k.ahd l hl r (List.mem_cons_of_mem _ hr)
  · have e := k.all x
    rw [has_app, has_one, has_cons] at e
    rw [← e, has_app, has_one]
    have : (decide (l.1 ≤ x) && decide (x ≤ m)) = ((decide (l.1 ≤ x) && decide (x ≤ l.2)) || (decide (p.1 ≤ x) && decide (x ≤ p.2))) := by
      rw [Bool.eq_iff_iff]
      simp only [Bool.and_eq_true, Bool.or_eq_true, decide_eq_true_eq]
      constructor
      · rintro ⟨z1, z2⟩
        by_cases z : x ≤ l.2
        · exact .inl ⟨z1, z⟩
        · exact .inr ⟨by omega, by rcases e4 with e4 | e4 <;> omega⟩
      · rintro (z | z)
        · exact ⟨z.1, by omega⟩
        · exact ⟨by omega, by omega⟩
    show (has init x || (decide (l.1 ≤ x) && decide (x ≤ m)) || has rest x) = _
    rw [this]
    cases has init x <;> cases (decide (l.1 ≤ x) && decide (x ≤ l.2)) <;> cases (decide (p.1 ≤ x) && decide (x ≤ p.2)) <;> cases has rest x <;> rfl
/-! ### the first of the candidates -/
theorem none_before {P : Int → Bool} {d m : Int} (h : ∀ x, d < x → x < m → P x = true → (x = d + 1 ∨ P (x - 1) = false) → False) : ∀ (n : Nat) (x : Int), x = d + 1 + n → x < m → P x = false
  | 0, x, e, hx => by
    cases z : P x with
    | false => rfl
    | true => exact (h x (by omega) hx z (.inl (by omega))).elim
  | n + 1, x, e, hx => by
    cases z : P x with
    | false => rfl
    | true => exact (h x (by omega) hx z (.inr (none_before h n (x - 1) (by omega) (by omega)))).elim
theorem first_of {P : Int → Bool} {d : Int} {C : Int → Prop} (hC : ∀ x, d < x → x ≤ top → P x = true → (x = d + 1 ∨ P (x - 1) = false) → C x) {r : Option Int}
    (hr : match r with | none => ∀ x, d < x → x ≤ top → C x → P x = false | some m => d < m ∧ m ≤ top ∧ P m = true ∧ ∀ y, d < y → y ≤ top → C y → P y = true → m ≤ y) : First P d r := by
  cases r with
  | none =>
    intro x h1 h2
    exact none_before (d := d) (m := top + 1) (fun y y1 y2 y3 y4 => by have := hr y y1 (by omega) (hC y y1 (by omega) y3 y4); rw [y3] at this; cases this) (x - d - 1).toNat x (by omega) (by omega)
  | some m =>
    obtain ⟨h1, h2, h3, h4⟩ := hr
    refine ⟨h1, h2, h3, fun y y1 y2 => none_before (d := d) (m := m) (fun z z1 z2 z3 z4 => ?_) (y - d - 1).toNat y (by omega) y2⟩
    have := h4 z z1 (by omega) (hC z z1 (by omega) z3 z4) z3
    omega
/-- where it turns -/
def points (S : List (Int × Int)) : List Int := 0 :: S.flatMap fun p => [p.1, p.2 + 1]
theorem turns {S : List (Int × Int)} {x : Int} (h : has S x ≠ has S (x - 1)) : x ∈ points S := by
  refine List.mem_cons_of_mem _ (List.mem_flatMap.mpr ?_)
  cases h1 : has S x with
  | true =>
    have h2 : has S (x - 1) = false := by cases z : has S (x - 1) with
      | false => rfl
      | true => rw [h1, z] at h; exact absurd rfl h
    obtain ⟨p, hp, q⟩ := has_iff.mp h1
    have := has_no.mp h2 p hp
    exact ⟨p, hp, by simp; omega⟩
  | false =>
    have h2 : has S (x - 1) = true := by cases z : has S (x - 1) with
      | true => rfl
      | false => rw [h1, z] at h; exact absurd rfl h
    obtain ⟨p, hp, q⟩ := has_iff.mp h2
    have := has_no.mp h1 p hp
    exact ⟨p, hp, by simp; omega⟩
end DY

namespace K23
open PySem PySem.Spec PyProof.Rows L2 Dz DY
theorem comp_genL {α : Type} {mg : MG} {mt : MT} {me : ME} {ρ : Rho} (g f : α → D) (p : α → Bool) : ∀ (l : List α) (Q : List D → Prop), (∀ a ∈ l, ∀ (Q1 : D → Prop) (Q0 : Prop), (if p a = true then Q1 (f a) else Q0) → mg (g a) ρ fun ρ' => mt ρ' fun b => if b = true then me ρ' Q1 else Q0) →
    Q ((l.filter p).map f) → compM mg mt me ρ (l.map g) Q
  | [], Q, _, q => q
  | d :: ds, Q, h, q => by
    show mg (g d) ρ fun ρ' => mt ρ' fun b => if b = true then me ρ' (fun y => compM mg mt me ρ (ds.map g) fun ys => Q (y :: ys)) else compM mg mt me ρ (ds.map g) Q
    refine h d List.mem_cons_self _ _ ?_
    have t : ∀ a ∈ ds, ∀ (Q1 : D → Prop) (Q0 : Prop), (if p a = true then Q1 (f a) else Q0) → mg (g a) ρ fun ρ' => mt ρ' fun b => if b = true then me ρ' Q1 else Q0 := fun a ha => h a (List.mem_cons_of_mem _ ha)
    cases e : p d with
    | true =>
      rw [if_pos rfl]
      rw [List.filter_cons_of_pos e] at q
      exact comp_genL g f p ds _ t q
    | false =>
      rw [if_neg Bool.false_ne_true]
      rw [List.filter_cons_of_neg (by rw [e]; simp)] at q
      exact comp_genL g f p ds _ t q
theorem pow9 (Q : D → Prop) : powF (.int 10) (.int 9) Q = Q (.int 1000000000) := by
  unfold powF; simp
theorem eqG_i (i j : Int) (Q : D → Prop) : eqG (.int i) (.int j) Q = Q (.bl (i == j)) := eq_int' i j Q
theorem eqG_b (i j : Bool) (Q : D → Prop) : eqG (.bl i) (.bl j) Q = Q (.bl (i == j)) := by
  show (sh (.bl i) = true ∧ sh (.bl j) = true ∧ Q (.bl (eqv (.bl i) (.bl j)))) = _
  rw [sh_bl, sh_bl, eqv_bl]; simp
theorem e_leno (i : Nat) (ρ : Rho) (Q : D → Prop) : mLenO i ρ Q = ownD ρ[i]? fun ds => Q (.int ds.length) := propext Iff.rfl
theorem sh_ints (l : List Int) : sh (.lst (l.map D.int)) = true := by
  have pl : D.plAll (l.map D.int) = true := by
    induction l with
    | nil => simp only [List.map_nil, D.plAll]
    | cons x l ih => simp only [List.map_cons, D.plAll, D.pl, ih, Bool.and_self]
  have cl : PyData.canLayAll0 (D.pyAll (l.map D.int)) = true ∧ PyData.depthAll (D.pyAll (l.map D.int)) = 0 := by
    induction l with
    | nil => simp only [List.map_nil, D.pyAll, PyData.canLayAll0, PyData.depthAll, and_self]
    | cons x l ih =>
      have ih := ih (by simpa only [List.map_cons, D.plAll, D.pl, Bool.true_and] using pl)
      simp only [List.map_cons, D.pyAll, D.py, PyData.canLayAll0, PyData.canLay0, PyData.depthAll, PyData.depth, ih.1, ih.2, Bool.and_self, Nat.max_self, and_self]
  unfold sh
  simp only [D.pl, pl, D.py, Bool.true_and]
  unfold SeqAt.shaped
  simp only [PyData.canLay0, PyData.depth, cl, Bool.true_and]
  decide
theorem ne_ints (l : List Int) (Q : D → Prop) : neF (.lst (l.map D.int)) (.lst []) Q = Q (.bl (!l.isEmpty)) := by
  show (sh (.lst (l.map D.int)) = true ∧ sh (.lst (([] : List Int).map D.int)) = true ∧ Q (.bl (!eqv (.lst (l.map D.int)) (.lst [])))) = _
  rw [sh_ints, sh_ints]
  have : eqv (.lst (l.map D.int)) (.lst []) = l.isEmpty := by
    unfold eqv
    cases l with
    | nil => simp [D.py, D.pyAll, PyData.eqv, PyData.eqvAll]
    | cons x l => simp [D.py, D.pyAll, PyData.eqv, PyData.eqvAll]
  rw [this]; simp
/-! spans as data -/
def pr (p : Int × Int) : D := .tup [.int p.1, .int p.2]
def sps (S : List (Int × Int)) : List D := S.map pr
theorem sps_len (S : List (Int × Int)) : (sps S).length = S.length := by unfold sps; rw [List.length_map]
def dO (c : Cs) (F : List (Int × Int)) : D := .obj c.Days [("_spans", .tup (sps F))]
theorem day_spec (c : Cs) (i : Int) (Q : D → Prop) (h : Q (.bl (decide (0 ≤ i) && decide (i ≤ 1000000000)))) : m_is_day c [.int i] Q := by
  unfold m_is_day m_is_integer
  simp -implicitDefEqProofs only [Dz.e_rng1, Dz.e_rngQ, Dz.e_seq, Dz.e_next, Dz.e_brk, Dz.e_cont, Dz.e_drop, Dz.e_ifS, Dz.e_asg, Dz.e_par, Dz.e_ret, Dz.e_retN, Dz.e_for, Dz.e_run1, Dz.e_run2, Dz.e_run3, Dz.e_run4, Dz.e_run5, Dz.e_run6, Dz.e_run7, Dz.e_run8, Dz.e_rep0, Dz.e_rep1, Dz.e_rep2, Dz.e_rep3, Dz.e_rep4, Dz.e_rep5, Dz.e_rep6, Dz.e_rep7, Dz.e_rep8, Dz.e_rep9, Dz.e_rep10, Dz.e_rep11, Dz.e_rep12, Dz.e_rep13, Dz.e_rep14, Dz.e_rep15, Dz.e_rep16, Dz.e_rep17, Dz.e_rep18, Dz.e_rep19, Dz.e_rep20, Dz.e_rep21, Dz.e_rep22, Dz.e_rep23, Dz.e_rep24, Dz.e_rep25, Dz.e_v0, Dz.e_s0, Dz.e_v1, Dz.e_s1, Dz.e_v2, Dz.e_s2, Dz.e_v3, Dz.e_s3, Dz.e_v4, Dz.e_s4, Dz.e_v5, Dz.e_s5, Dz.e_v6, Dz.e_s6, Dz.e_v7, Dz.e_s7, Dz.e_v8, Dz.e_s8, Dz.e_v9, Dz.e_s9, Dz.e_v10, Dz.e_s10, Dz.e_v11, Dz.e_s11, Dz.e_v12, Dz.e_s12, Dz.e_v13, Dz.e_s13, Dz.e_v14, Dz.e_s14, Dz.e_v15, Dz.e_s15, Dz.e_v16, Dz.e_s16, Dz.e_v17, Dz.e_s17, Dz.e_v18, Dz.e_s18, Dz.e_v19, Dz.e_s19, Dz.e_v20, Dz.e_s20, Dz.e_v21, Dz.e_s21, Dz.e_v22, Dz.e_s22, Dz.e_v23, Dz.e_s23, Dz.e_v24, Dz.e_s24, Dz.e_v25, Dz.e_s25, Dz.e_c, Dz.e_bin, Dz.e_un, Dz.e_test, Dz.e_tru, Dz.e_and, Dz.e_or, Dz.e_not, Dz.e_yes, Dz.e_andV, Dz.e_orV, Dz.e_notV, Dz.e_orT, Dz.e_andT, Dz.e_if, Dz.e_nil, Dz.e_cons, Dz.e_tup, Dz.e_lst, Dz.e_call, Dz.e_fn, Dz.e_chain, Dz.e_noP, Dz.e_part, Dz.e_sl, Dz.e_m1, Dz.e_m0, Dz.e_gv, Dz.e_gt, Dz.e_gc, Dz.e_gn, Dz.e_lc, Dz.e_w0, Dz.e_w1, Dz.e_list, Dz.e_tupI, Dz.e_strI, Dz.tru_bl, Dz.tru_int, Dz.tru_lst, Dz.tru_tup, Dz.tru_str, Dz.len_lst, Dz.len_tup, Dz.len_str, Dz.add_int', Dz.sub_int', Dz.lt_int', Dz.le_int', Dz.gt_int', Dz.ge_int', Dz.eq_int', Dz.ne_int', Dz.eq_str', Dz.ne_str', Dz.asBl_bl, Dz.asStr_str, Dz.asInt_int, Dz.asLst_lst, Dz.asTup_tup, Dz.add_str', Dz.add_lst', Dz.add_tup', Dz.mul_int', Dz.mul_str', Dz.mod_int'', Dz.div_int', Dz.ix_lst', Dz.ix_tup', Dz.ix_str', Dz.sl_lst', Dz.sl_tup', Dz.sl_str', Dz.neg_int', Dz.at0, Dz.at1, Dz.at2, Dz.at3, Dz.at4, Dz.at5, Dz.at6, Dz.at7, Dz.int_int', Dz.int_bl', Dz.tupF_lst, Dz.tupF_tup, Dz.lstF_lst, Dz.lstF_tup, Dz.is_bl', Dz.not_bl', Dz.take_eq, Dz.some_some, Dz.two_eq, List.length_cons, List.length_nil, List.map_cons, List.map_nil, List.append_nil, List.cons_append, List.nil_append, Nat.reduceAdd, Nat.reduceSub, Nat.reduceLeDiff, Nat.zero_add, Int.toNat_natCast, if_true, if_false, Bool.false_eq_true, Bool.not_true, Bool.not_false, true_and, and_true, ite_true, ite_false, Dz.e_fld, Dz.obj_f, Dz.e_meth, Dz.is_obj, Dz.e_make, Dz.e_own1, Dz.e_ownIn, Dz.is_c, Dz.e_star, Dz.sq_lst, Dz.sq_tup, Dz.isL_lst, Dz.e_zip2, Dz.e_enum, Dz.e_sortSet, Dz.own_own, Dz.e_sown, Dz.e_sapp, Dz.e_sput, Dz.e_sins, Dz.e_sext, Dz.e_sfrz, Dz.e_ixo, Dz.e_truo, Dz.slf_slf, Dz.e_sslf, Dz.e_mslf, Dz.e_runI2, Dz.max2, Dz.min2, Dz.e_not, Dz.e_isiT, Dz.isi_lst_lt, Dz.isi_tup_lt, List.getElem?_cons_zero, List.getElem?_cons_succ, isi_non_int, isi_non_bool, isi_non_str, isi_non_tuple, isi_non_list, isi_non_dict, isi_bl_int, isi_bl_bool, isi_bl_str, isi_bl_tuple, isi_bl_list, isi_bl_dict, isi_int_int, isi_int_bool, isi_int_str, isi_int_tuple, isi_int_list, isi_int_dict, isi_str_int, isi_str_bool, isi_str_str, isi_str_tuple, isi_str_list, isi_str_dict, isi_tup_int, isi_tup_bool, isi_tup_str, isi_tup_tuple, isi_tup_list, isi_tup_dict, isi_lst_int, isi_lst_bool, isi_lst_str, isi_lst_tuple, isi_lst_list, isi_lst_dict, isi_dic_int, isi_dic_bool, isi_dic_str, isi_dic_tuple, isi_dic_list, isi_dic_dict]
  split
  · rename_i e
    rw [e] at h
    exact h
  · rename_i e
    have e : decide (0 ≤ i) = false := by simpa using e
    rw [e] at h
    exact h
theorem span_spec (c : Cs) (p : Int × Int) (hp : 0 ≤ p.1 ∧ p.1 ≤ top ∧ 0 ≤ p.2 ∧ p.2 ≤ top) (Q : D → Prop) (h : Q (.bl true)) : m__is_span c [pr p] Q := by
  unfold m__is_span pr
  simp -implicitDefEqProofs only [Dz.e_rng1, Dz.e_rngQ, Dz.e_seq, Dz.e_next, Dz.e_brk, Dz.e_cont, Dz.e_drop, Dz.e_ifS, Dz.e_asg, Dz.e_par, Dz.e_ret, Dz.e_retN, Dz.e_for, Dz.e_run1, Dz.e_run2, Dz.e_run3, Dz.e_run4, Dz.e_run5, Dz.e_run6, Dz.e_run7, Dz.e_run8, Dz.e_rep0, Dz.e_rep1, Dz.e_rep2, Dz.e_rep3, Dz.e_rep4, Dz.e_rep5, Dz.e_rep6, Dz.e_rep7, Dz.e_rep8, Dz.e_rep9, Dz.e_rep10, Dz.e_rep11, Dz.e_rep12, Dz.e_rep13, Dz.e_rep14, Dz.e_rep15, Dz.e_rep16, Dz.e_rep17, Dz.e_rep18, Dz.e_rep19, Dz.e_rep20, Dz.e_rep21, Dz.e_rep22, Dz.e_rep23, Dz.e_rep24, Dz.e_rep25, Dz.e_v0, Dz.e_s0, Dz.e_v1, Dz.e_s1, Dz.e_v2, Dz.e_s2, Dz.e_v3, Dz.e_s3, Dz.e_v4, Dz.e_s4, Dz.e_v5, Dz.e_s5, Dz.e_v6, Dz.e_s6, Dz.e_v7, Dz.e_s7, Dz.e_v8, Dz.e_s8, Dz.e_v9, Dz.e_s9, Dz.e_v10, Dz.e_s10, Dz.e_v11, Dz.e_s11, Dz.e_v12, Dz.e_s12, Dz.e_v13, Dz.e_s13, Dz.e_v14, Dz.e_s14, Dz.e_v15, Dz.e_s15, Dz.e_v16, Dz.e_s16, Dz.e_v17, Dz.e_s17, Dz.e_v18, Dz.e_s18, Dz.e_v19, Dz.e_s19, Dz.e_v20, Dz.e_s20, Dz.e_v21, Dz.e_s21, Dz.e_v22, Dz.e_s22, Dz.e_v23, Dz.e_s23, Dz.e_v24, Dz.e_s24, Dz.e_v25, Dz.e_s25, Dz.e_c, Dz.e_bin, Dz.e_un, Dz.e_test, Dz.e_tru, Dz.e_and, Dz.e_or, Dz.e_not, Dz.e_yes, Dz.e_andV, Dz.e_orV, Dz.e_notV, Dz.e_orT, Dz.e_andT, Dz.e_if, Dz.e_nil, Dz.e_cons, Dz.e_tup, Dz.e_lst, Dz.e_call, Dz.e_fn, Dz.e_chain, Dz.e_noP, Dz.e_part, Dz.e_sl, Dz.e_m1, Dz.e_m0, Dz.e_gv, Dz.e_gt, Dz.e_gc, Dz.e_gn, Dz.e_lc, Dz.e_w0, Dz.e_w1, Dz.e_list, Dz.e_tupI, Dz.e_strI, Dz.tru_bl, Dz.tru_int, Dz.tru_lst, Dz.tru_tup, Dz.tru_str, Dz.len_lst, Dz.len_tup, Dz.len_str, Dz.add_int', Dz.sub_int', Dz.lt_int', Dz.le_int', Dz.gt_int', Dz.ge_int', Dz.eq_int', Dz.ne_int', Dz.eq_str', Dz.ne_str', Dz.asBl_bl, Dz.asStr_str, Dz.asInt_int, Dz.asLst_lst, Dz.asTup_tup, Dz.add_str', Dz.add_lst', Dz.add_tup', Dz.mul_int', Dz.mul_str', Dz.mod_int'', Dz.div_int', Dz.ix_lst', Dz.ix_tup', Dz.ix_str', Dz.sl_lst', Dz.sl_tup', Dz.sl_str', Dz.neg_int', Dz.at0, Dz.at1, Dz.at2, Dz.at3, Dz.at4, Dz.at5, Dz.at6, Dz.at7, Dz.int_int', Dz.int_bl', Dz.tupF_lst, Dz.tupF_tup, Dz.lstF_lst, Dz.lstF_tup, Dz.is_bl', Dz.not_bl', Dz.take_eq, Dz.some_some, Dz.two_eq, List.length_cons, List.length_nil, List.map_cons, List.map_nil, List.append_nil, List.cons_append, List.nil_append, Nat.reduceAdd, Nat.reduceSub, Nat.reduceLeDiff, Nat.zero_add, Int.toNat_natCast, if_true, if_false, Bool.false_eq_true, Bool.not_true, Bool.not_false, true_and, and_true, ite_true, ite_false, Dz.e_fld, Dz.obj_f, Dz.e_meth, Dz.is_obj, Dz.e_make, Dz.e_own1, Dz.e_ownIn, Dz.is_c, Dz.e_star, Dz.sq_lst, Dz.sq_tup, Dz.isL_lst, Dz.e_zip2, Dz.e_enum, Dz.e_sortSet, Dz.own_own, Dz.e_sown, Dz.e_sapp, Dz.e_sput, Dz.e_sins, Dz.e_sext, Dz.e_sfrz, Dz.e_ixo, Dz.e_truo, Dz.slf_slf, Dz.e_sslf, Dz.e_mslf, Dz.e_runI2, Dz.max2, Dz.min2, Dz.e_not, Dz.e_isiT, Dz.isi_lst_lt, Dz.isi_tup_lt, List.getElem?_cons_zero, List.getElem?_cons_succ, isi_non_int, isi_non_bool, isi_non_str, isi_non_tuple, isi_non_list, isi_non_dict, isi_bl_int, isi_bl_bool, isi_bl_str, isi_bl_tuple, isi_bl_list, isi_bl_dict, isi_int_int, isi_int_bool, isi_int_str, isi_int_tuple, isi_int_list, isi_int_dict, isi_str_int, isi_str_bool, isi_str_str, isi_str_tuple, isi_str_list, isi_str_dict, isi_tup_int, isi_tup_bool, isi_tup_str, isi_tup_tuple, isi_tup_list, isi_tup_dict, isi_lst_int, isi_lst_bool, isi_lst_str, isi_lst_tuple, isi_lst_list, isi_lst_dict, isi_dic_int, isi_dic_bool, isi_dic_str, isi_dic_tuple, isi_dic_list, isi_dic_dict, eqG_i]
  rw [if_pos (by decide)]
  refine day_spec c _ _ ?_
  rw [decide_eq_true hp.1, decide_eq_true (show p.1 ≤ 1000000000 from hp.2.1)]
  simp -implicitDefEqProofs only [Dz.e_rng1, Dz.e_rngQ, Dz.e_seq, Dz.e_next, Dz.e_brk, Dz.e_cont, Dz.e_drop, Dz.e_ifS, Dz.e_asg, Dz.e_par, Dz.e_ret, Dz.e_retN, Dz.e_for, Dz.e_run1, Dz.e_run2, Dz.e_run3, Dz.e_run4, Dz.e_run5, Dz.e_run6, Dz.e_run7, Dz.e_run8, Dz.e_rep0, Dz.e_rep1, Dz.e_rep2, Dz.e_rep3, Dz.e_rep4, Dz.e_rep5, Dz.e_rep6, Dz.e_rep7, Dz.e_rep8, Dz.e_rep9, Dz.e_rep10, Dz.e_rep11, Dz.e_rep12, Dz.e_rep13, Dz.e_rep14, Dz.e_rep15, Dz.e_rep16, Dz.e_rep17, Dz.e_rep18, Dz.e_rep19, Dz.e_rep20, Dz.e_rep21, Dz.e_rep22, Dz.e_rep23, Dz.e_rep24, Dz.e_rep25, Dz.e_v0, Dz.e_s0, Dz.e_v1, Dz.e_s1, Dz.e_v2, Dz.e_s2, Dz.e_v3, Dz.e_s3, Dz.e_v4, Dz.e_s4, Dz.e_v5, Dz.e_s5, Dz.e_v6, Dz.e_s6, Dz.e_v7, Dz.e_s7, Dz.e_v8, Dz.e_s8, Dz.e_v9, Dz.e_s9, Dz.e_v10, Dz.e_s10, Dz.e_v11, Dz.e_s11, Dz.e_v12, Dz.e_s12, Dz.e_v13, Dz.e_s13, Dz.e_v14, Dz.e_s14, Dz.e_v15, Dz.e_s15, Dz.e_v16, Dz.e_s16, Dz.e_v17, Dz.e_s17, Dz.e_v18, Dz.e_s18, Dz.e_v19, Dz.e_s19, Dz.e_v20, Dz.e_s20, Dz.e_v21, Dz.e_s21, Dz.e_v22, Dz.e_s22, Dz.e_v23, Dz.e_s23, Dz.e_v24, Dz.e_s24, Dz.e_v25, Dz.e_s25, Dz.e_c, Dz.e_bin, Dz.e_un, Dz.e_test, Dz.e_tru, Dz.e_and, Dz.e_or, Dz.e_not, Dz.e_yes, Dz.e_andV, Dz.e_orV, Dz.e_notV, Dz.e_orT, Dz.e_andT, Dz.e_if, Dz.e_nil, Dz.e_cons, Dz.e_tup, Dz.e_lst, Dz.e_call, Dz.e_fn, Dz.e_chain, Dz.e_noP, Dz.e_part, Dz.e_sl, Dz.e_m1, Dz.e_m0, Dz.e_gv, Dz.e_gt, Dz.e_gc, Dz.e_gn, Dz.e_lc, Dz.e_w0, Dz.e_w1, Dz.e_list, Dz.e_tupI, Dz.e_strI, Dz.tru_bl, Dz.tru_int, Dz.tru_lst, Dz.tru_tup, Dz.tru_str, Dz.len_lst, Dz.len_tup, Dz.len_str, Dz.add_int', Dz.sub_int', Dz.lt_int', Dz.le_int', Dz.gt_int', Dz.ge_int', Dz.eq_int', Dz.ne_int', Dz.eq_str', Dz.ne_str', Dz.asBl_bl, Dz.asStr_str, Dz.asInt_int, Dz.asLst_lst, Dz.asTup_tup, Dz.add_str', Dz.add_lst', Dz.add_tup', Dz.mul_int', Dz.mul_str', Dz.mod_int'', Dz.div_int', Dz.ix_lst', Dz.ix_tup', Dz.ix_str', Dz.sl_lst', Dz.sl_tup', Dz.sl_str', Dz.neg_int', Dz.at0, Dz.at1, Dz.at2, Dz.at3, Dz.at4, Dz.at5, Dz.at6, Dz.at7, Dz.int_int', Dz.int_bl', Dz.tupF_lst, Dz.tupF_tup, Dz.lstF_lst, Dz.lstF_tup, Dz.is_bl', Dz.not_bl', Dz.take_eq, Dz.some_some, Dz.two_eq, List.length_cons, List.length_nil, List.map_cons, List.map_nil, List.append_nil, List.cons_append, List.nil_append, Nat.reduceAdd, Nat.reduceSub, Nat.reduceLeDiff, Nat.zero_add, Int.toNat_natCast, if_true, if_false, Bool.false_eq_true, Bool.not_true, Bool.not_false, true_and, and_true, ite_true, ite_false, Dz.e_fld, Dz.obj_f, Dz.e_meth, Dz.is_obj, Dz.e_make, Dz.e_own1, Dz.e_ownIn, Dz.is_c, Dz.e_star, Dz.sq_lst, Dz.sq_tup, Dz.isL_lst, Dz.e_zip2, Dz.e_enum, Dz.e_sortSet, Dz.own_own, Dz.e_sown, Dz.e_sapp, Dz.e_sput, Dz.e_sins, Dz.e_sext, Dz.e_sfrz, Dz.e_ixo, Dz.e_truo, Dz.slf_slf, Dz.e_sslf, Dz.e_mslf, Dz.e_runI2, Dz.max2, Dz.min2, Dz.e_not, Dz.e_isiT, Dz.isi_lst_lt, Dz.isi_tup_lt, List.getElem?_cons_zero, List.getElem?_cons_succ, isi_non_int, isi_non_bool, isi_non_str, isi_non_tuple, isi_non_list, isi_non_dict, isi_bl_int, isi_bl_bool, isi_bl_str, isi_bl_tuple, isi_bl_list, isi_bl_dict, isi_int_int, isi_int_bool, isi_int_str, isi_int_tuple, isi_int_list, isi_int_dict, isi_str_int, isi_str_bool, isi_str_str, isi_str_tuple, isi_str_list, isi_str_dict, isi_tup_int, isi_tup_bool, isi_tup_str, isi_tup_tuple, isi_tup_list, isi_tup_dict, isi_lst_int, isi_lst_bool, isi_lst_str, isi_lst_tuple, isi_lst_list, isi_lst_dict, isi_dic_int, isi_dic_bool, isi_dic_str, isi_dic_tuple, isi_dic_list, isi_dic_dict]
  refine day_spec c _ _ ?_
  rw [decide_eq_true hp.2.2.1, decide_eq_true (show p.2 ≤ 1000000000 from hp.2.2.2)]
  exact h
theorem spans_spec (c : Cs) (S : List (Int × Int)) (hS : Inr S) (hl : S.length ≤ 1000) (Q : D → Prop) (h : Q (.bl true)) : m__are_spans c [.lst (sps S)] Q := by
  unfold m__are_spans
  simp -implicitDefEqProofs only [Dz.e_rng1, Dz.e_rngQ, Dz.e_seq, Dz.e_next, Dz.e_brk, Dz.e_cont, Dz.e_drop, Dz.e_ifS, Dz.e_asg, Dz.e_par, Dz.e_ret, Dz.e_retN, Dz.e_for, Dz.e_run1, Dz.e_run2, Dz.e_run3, Dz.e_run4, Dz.e_run5, Dz.e_run6, Dz.e_run7, Dz.e_run8, Dz.e_rep0, Dz.e_rep1, Dz.e_rep2, Dz.e_rep3, Dz.e_rep4, Dz.e_rep5, Dz.e_rep6, Dz.e_rep7, Dz.e_rep8, Dz.e_rep9, Dz.e_rep10, Dz.e_rep11, Dz.e_rep12, Dz.e_rep13, Dz.e_rep14, Dz.e_rep15, Dz.e_rep16, Dz.e_rep17, Dz.e_rep18, Dz.e_rep19, Dz.e_rep20, Dz.e_rep21, Dz.e_rep22, Dz.e_rep23, Dz.e_rep24, Dz.e_rep25, Dz.e_v0, Dz.e_s0, Dz.e_v1, Dz.e_s1, Dz.e_v2, Dz.e_s2, Dz.e_v3, Dz.e_s3, Dz.e_v4, Dz.e_s4, Dz.e_v5, Dz.e_s5, Dz.e_v6, Dz.e_s6, Dz.e_v7, Dz.e_s7, Dz.e_v8, Dz.e_s8, Dz.e_v9, Dz.e_s9, Dz.e_v10, Dz.e_s10, Dz.e_v11, Dz.e_s11, Dz.e_v12, Dz.e_s12, Dz.e_v13, Dz.e_s13, Dz.e_v14, Dz.e_s14, Dz.e_v15, Dz.e_s15, Dz.e_v16, Dz.e_s16, Dz.e_v17, Dz.e_s17, Dz.e_v18, Dz.e_s18, Dz.e_v19, Dz.e_s19, Dz.e_v20, Dz.e_s20, Dz.e_v21, Dz.e_s21, Dz.e_v22, Dz.e_s22, Dz.e_v23, Dz.e_s23, Dz.e_v24, Dz.e_s24, Dz.e_v25, Dz.e_s25, Dz.e_c, Dz.e_bin, Dz.e_un, Dz.e_test, Dz.e_tru, Dz.e_and, Dz.e_or, Dz.e_not, Dz.e_yes, Dz.e_andV, Dz.e_orV, Dz.e_notV, Dz.e_orT, Dz.e_andT, Dz.e_if, Dz.e_nil, Dz.e_cons, Dz.e_tup, Dz.e_lst, Dz.e_call, Dz.e_fn, Dz.e_chain, Dz.e_noP, Dz.e_part, Dz.e_sl, Dz.e_m1, Dz.e_m0, Dz.e_gv, Dz.e_gt, Dz.e_gc, Dz.e_gn, Dz.e_lc, Dz.e_w0, Dz.e_w1, Dz.e_list, Dz.e_tupI, Dz.e_strI, Dz.tru_bl, Dz.tru_int, Dz.tru_lst, Dz.tru_tup, Dz.tru_str, Dz.len_lst, Dz.len_tup, Dz.len_str, Dz.add_int', Dz.sub_int', Dz.lt_int', Dz.le_int', Dz.gt_int', Dz.ge_int', Dz.eq_int', Dz.ne_int', Dz.eq_str', Dz.ne_str', Dz.asBl_bl, Dz.asStr_str, Dz.asInt_int, Dz.asLst_lst, Dz.asTup_tup, Dz.add_str', Dz.add_lst', Dz.add_tup', Dz.mul_int', Dz.mul_str', Dz.mod_int'', Dz.div_int', Dz.ix_lst', Dz.ix_tup', Dz.ix_str', Dz.sl_lst', Dz.sl_tup', Dz.sl_str', Dz.neg_int', Dz.at0, Dz.at1, Dz.at2, Dz.at3, Dz.at4, Dz.at5, Dz.at6, Dz.at7, Dz.int_int', Dz.int_bl', Dz.tupF_lst, Dz.tupF_tup, Dz.lstF_lst, Dz.lstF_tup, Dz.is_bl', Dz.not_bl', Dz.take_eq, Dz.some_some, Dz.two_eq, List.length_cons, List.length_nil, List.map_cons, List.map_nil, List.append_nil, List.cons_append, List.nil_append, Nat.reduceAdd, Nat.reduceSub, Nat.reduceLeDiff, Nat.zero_add, Int.toNat_natCast, if_true, if_false, Bool.false_eq_true, Bool.not_true, Bool.not_false, true_and, and_true, ite_true, ite_false, Dz.e_fld, Dz.obj_f, Dz.e_meth, Dz.is_obj, Dz.e_make, Dz.e_own1, Dz.e_ownIn, Dz.is_c, Dz.e_star, Dz.sq_lst, Dz.sq_tup, Dz.isL_lst, Dz.e_zip2, Dz.e_enum, Dz.e_sortSet, Dz.own_own, Dz.e_sown, Dz.e_sapp, Dz.e_sput, Dz.e_sins, Dz.e_sext, Dz.e_sfrz, Dz.e_ixo, Dz.e_truo, Dz.slf_slf, Dz.e_sslf, Dz.e_mslf, Dz.e_runI2, Dz.max2, Dz.min2, Dz.e_not, Dz.e_isiT, Dz.isi_lst_lt, Dz.isi_tup_lt, List.getElem?_cons_zero, List.getElem?_cons_succ, isi_non_int, isi_non_bool, isi_non_str, isi_non_tuple, isi_non_list, isi_non_dict, isi_bl_int, isi_bl_bool, isi_bl_str, isi_bl_tuple, isi_bl_list, isi_bl_dict, isi_int_int, isi_int_bool, isi_int_str, isi_int_tuple, isi_int_list, isi_int_dict, isi_str_int, isi_str_bool, isi_str_str, isi_str_tuple, isi_str_list, isi_str_dict, isi_tup_int, isi_tup_bool, isi_tup_str, isi_tup_tuple, isi_tup_list, isi_tup_dict, isi_lst_int, isi_lst_bool, isi_lst_str, isi_lst_tuple, isi_lst_list, isi_lst_dict, isi_dic_int, isi_dic_bool, isi_dic_str, isi_dic_tuple, isi_dic_list, isi_dic_dict]
  refine ⟨by decide, ?_⟩
  rw [sps_len]
  refine ⟨size_le (by omega), ?_⟩
  unfold sps
  refine comp_mapL _ (fun _ => D.bl true) _ _ (fun p hp Q q => ?_) ?_
  · simp -implicitDefEqProofs only [Dz.e_rng1, Dz.e_rngQ, Dz.e_seq, Dz.e_next, Dz.e_brk, Dz.e_cont, Dz.e_drop, Dz.e_ifS, Dz.e_asg, Dz.e_par, Dz.e_ret, Dz.e_retN, Dz.e_for, Dz.e_run1, Dz.e_run2, Dz.e_run3, Dz.e_run4, Dz.e_run5, Dz.e_run6, Dz.e_run7, Dz.e_run8, Dz.e_rep0, Dz.e_rep1, Dz.e_rep2, Dz.e_rep3, Dz.e_rep4, Dz.e_rep5, Dz.e_rep6, Dz.e_rep7, Dz.e_rep8, Dz.e_rep9, Dz.e_rep10, Dz.e_rep11, Dz.e_rep12, Dz.e_rep13, Dz.e_rep14, Dz.e_rep15, Dz.e_rep16, Dz.e_rep17, Dz.e_rep18, Dz.e_rep19, Dz.e_rep20, Dz.e_rep21, Dz.e_rep22, Dz.e_rep23, Dz.e_rep24, Dz.e_rep25, Dz.e_v0, Dz.e_s0, Dz.e_v1, Dz.e_s1, Dz.e_v2, Dz.e_s2, Dz.e_v3, Dz.e_s3, Dz.e_v4, Dz.e_s4, Dz.e_v5, Dz.e_s5, Dz.e_v6, Dz.e_s6, Dz.e_v7, Dz.e_s7, Dz.e_v8, Dz.e_s8, Dz.e_v9, Dz.e_s9, Dz.e_v10, Dz.e_s10, Dz.e_v11, Dz.e_s11, Dz.e_v12, Dz.e_s12, Dz.e_v13, Dz.e_s13, Dz.e_v14, Dz.e_s14, Dz.e_v15, Dz.e_s15, Dz.e_v16, Dz.e_s16, Dz.e_v17, Dz.e_s17, Dz.e_v18, Dz.e_s18, Dz.e_v19, Dz.e_s19, Dz.e_v20, Dz.e_s20, Dz.e_v21, Dz.e_s21, Dz.e_v22, Dz.e_s22, Dz.e_v23, Dz.e_s23, Dz.e_v24, Dz.e_s24, Dz.e_v25, Dz.e_s25, Dz.e_c, Dz.e_bin, Dz.e_un, Dz.e_test, Dz.e_tru, Dz.e_and, Dz.e_or, Dz.e_not, Dz.e_yes, Dz.e_andV, Dz.e_orV, Dz.e_notV, Dz.e_orT, Dz.e_andT, Dz.e_if, Dz.e_nil, Dz.e_cons, Dz.e_tup, Dz.e_lst, Dz.e_call, Dz.e_fn, Dz.e_chain, Dz.e_noP, Dz.e_part, Dz.e_sl, Dz.e_m1, Dz.e_m0, Dz.e_gv, Dz.e_gt, Dz.e_gc, Dz.e_gn, Dz.e_lc, Dz.e_w0, Dz.e_w1, Dz.e_list, Dz.e_tupI, Dz.e_strI, Dz.tru_bl, Dz.tru_int, Dz.tru_lst, Dz.tru_tup, Dz.tru_str, Dz.len_lst, Dz.len_tup, Dz.len_str, Dz.add_int', Dz.sub_int', Dz.lt_int', Dz.le_int', Dz.gt_int', Dz.ge_int', Dz.eq_int', Dz.ne_int', Dz.eq_str', Dz.ne_str', Dz.asBl_bl, Dz.asStr_str, Dz.asInt_int, Dz.asLst_lst, Dz.asTup_tup, Dz.add_str', Dz.add_lst', Dz.add_tup', Dz.mul_int', Dz.mul_str', Dz.mod_int'', Dz.div_int', Dz.ix_lst', Dz.ix_tup', Dz.ix_str', Dz.sl_lst', Dz.sl_tup', Dz.sl_str', Dz.neg_int', Dz.at0, Dz.at1, Dz.at2, Dz.at3, Dz.at4, Dz.at5, Dz.at6, Dz.at7, Dz.int_int', Dz.int_bl', Dz.tupF_lst, Dz.tupF_tup, Dz.lstF_lst, Dz.lstF_tup, Dz.is_bl', Dz.not_bl', Dz.take_eq, Dz.some_some, Dz.two_eq, List.length_cons, List.length_nil, List.map_cons, List.map_nil, List.append_nil, List.cons_append, List.nil_append, Nat.reduceAdd, Nat.reduceSub, Nat.reduceLeDiff, Nat.zero_add, Int.toNat_natCast, if_true, if_false, Bool.false_eq_true, Bool.not_true, Bool.not_false, true_and, and_true, ite_true, ite_false, Dz.e_fld, Dz.obj_f, Dz.e_meth, Dz.is_obj, Dz.e_make, Dz.e_own1, Dz.e_ownIn, Dz.is_c, Dz.e_star, Dz.sq_lst, Dz.sq_tup, Dz.isL_lst, Dz.e_zip2, Dz.e_enum, Dz.e_sortSet, Dz.own_own, Dz.e_sown, Dz.e_sapp, Dz.e_sput, Dz.e_sins, Dz.e_sext, Dz.e_sfrz, Dz.e_ixo, Dz.e_truo, Dz.slf_slf, Dz.e_sslf, Dz.e_mslf, Dz.e_runI2, Dz.max2, Dz.min2, Dz.e_not, Dz.e_isiT, Dz.isi_lst_lt, Dz.isi_tup_lt, List.getElem?_cons_zero, List.getElem?_cons_succ, isi_non_int, isi_non_bool, isi_non_str, isi_non_tuple, isi_non_list, isi_non_dict, isi_bl_int, isi_bl_bool, isi_bl_str, isi_bl_tuple, isi_bl_list, isi_bl_dict, isi_int_int, isi_int_bool, isi_int_str, isi_int_tuple, isi_int_list, isi_int_dict, isi_str_int, isi_str_bool, isi_str_str, isi_str_tuple, isi_str_list, isi_str_dict, isi_tup_int, isi_tup_bool, isi_tup_str, isi_tup_tuple, isi_tup_list, isi_tup_dict, isi_lst_int, isi_lst_bool, isi_lst_str, isi_lst_tuple, isi_lst_list, isi_lst_dict, isi_dic_int, isi_dic_bool, isi_dic_str, isi_dic_tuple, isi_dic_list, isi_dic_dict]
    exact span_spec c p (hS p hp) Q q
  · show someD (blsOf (S.map fun _ => D.bl true)) fun bs => Q (.bl (bs.all id))
    rw [show (S.map fun _ => D.bl true) = (S.map fun _ => true).map D.bl by rw [List.map_map]; rfl, blsOf_map]
    show Q (.bl ((S.map fun _ => true).all id))
    rw [show ((S.map fun _ => true).all id) = true by simp]; exact h
theorem check_spec (c : Cs) (Q : D → Prop) (h : Q .non) : m_check c [.lst [.bl true]] Q := by
  unfold m_check
  simp -implicitDefEqProofs only [Dz.e_rng1, Dz.e_rngQ, Dz.e_seq, Dz.e_next, Dz.e_brk, Dz.e_cont, Dz.e_drop, Dz.e_ifS, Dz.e_asg, Dz.e_par, Dz.e_ret, Dz.e_retN, Dz.e_for, Dz.e_run1, Dz.e_run2, Dz.e_run3, Dz.e_run4, Dz.e_run5, Dz.e_run6, Dz.e_run7, Dz.e_run8, Dz.e_rep0, Dz.e_rep1, Dz.e_rep2, Dz.e_rep3, Dz.e_rep4, Dz.e_rep5, Dz.e_rep6, Dz.e_rep7, Dz.e_rep8, Dz.e_rep9, Dz.e_rep10, Dz.e_rep11, Dz.e_rep12, Dz.e_rep13, Dz.e_rep14, Dz.e_rep15, Dz.e_rep16, Dz.e_rep17, Dz.e_rep18, Dz.e_rep19, Dz.e_rep20, Dz.e_rep21, Dz.e_rep22, Dz.e_rep23, Dz.e_rep24, Dz.e_rep25, Dz.e_v0, Dz.e_s0, Dz.e_v1, Dz.e_s1, Dz.e_v2, Dz.e_s2, Dz.e_v3, Dz.e_s3, Dz.e_v4, Dz.e_s4, Dz.e_v5, Dz.e_s5, Dz.e_v6, Dz.e_s6, Dz.e_v7, Dz.e_s7, Dz.e_v8, Dz.e_s8, Dz.e_v9, Dz.e_s9, Dz.e_v10, Dz.e_s10, Dz.e_v11, Dz.e_s11, Dz.e_v12, Dz.e_s12, Dz.e_v13, Dz.e_s13, Dz.e_v14, Dz.e_s14, Dz.e_v15, Dz.e_s15, Dz.e_v16, Dz.e_s16, Dz.e_v17, Dz.e_s17, Dz.e_v18, Dz.e_s18, Dz.e_v19, Dz.e_s19, Dz.e_v20, Dz.e_s20, Dz.e_v21, Dz.e_s21, Dz.e_v22, Dz.e_s22, Dz.e_v23, Dz.e_s23, Dz.e_v24, Dz.e_s24, Dz.e_v25, Dz.e_s25, Dz.e_c, Dz.e_bin, Dz.e_un, Dz.e_test, Dz.e_tru, Dz.e_and, Dz.e_or, Dz.e_not, Dz.e_yes, Dz.e_andV, Dz.e_orV, Dz.e_notV, Dz.e_orT, Dz.e_andT, Dz.e_if, Dz.e_nil, Dz.e_cons, Dz.e_tup, Dz.e_lst, Dz.e_call, Dz.e_fn, Dz.e_chain, Dz.e_noP, Dz.e_part, Dz.e_sl, Dz.e_m1, Dz.e_m0, Dz.e_gv, Dz.e_gt, Dz.e_gc, Dz.e_gn, Dz.e_lc, Dz.e_w0, Dz.e_w1, Dz.e_list, Dz.e_tupI, Dz.e_strI, Dz.tru_bl, Dz.tru_int, Dz.tru_lst, Dz.tru_tup, Dz.tru_str, Dz.len_lst, Dz.len_tup, Dz.len_str, Dz.add_int', Dz.sub_int', Dz.lt_int', Dz.le_int', Dz.gt_int', Dz.ge_int', Dz.eq_int', Dz.ne_int', Dz.eq_str', Dz.ne_str', Dz.asBl_bl, Dz.asStr_str, Dz.asInt_int, Dz.asLst_lst, Dz.asTup_tup, Dz.add_str', Dz.add_lst', Dz.add_tup', Dz.mul_int', Dz.mul_str', Dz.mod_int'', Dz.div_int', Dz.ix_lst', Dz.ix_tup', Dz.ix_str', Dz.sl_lst', Dz.sl_tup', Dz.sl_str', Dz.neg_int', Dz.at0, Dz.at1, Dz.at2, Dz.at3, Dz.at4, Dz.at5, Dz.at6, Dz.at7, Dz.int_int', Dz.int_bl', Dz.tupF_lst, Dz.tupF_tup, Dz.lstF_lst, Dz.lstF_tup, Dz.is_bl', Dz.not_bl', Dz.take_eq, Dz.some_some, Dz.two_eq, List.length_cons, List.length_nil, List.map_cons, List.map_nil, List.append_nil, List.cons_append, List.nil_append, Nat.reduceAdd, Nat.reduceSub, Nat.reduceLeDiff, Nat.zero_add, Int.toNat_natCast, if_true, if_false, Bool.false_eq_true, Bool.not_true, Bool.not_false, true_and, and_true, ite_true, ite_false, Dz.e_fld, Dz.obj_f, Dz.e_meth, Dz.is_obj, Dz.e_make, Dz.e_own1, Dz.e_ownIn, Dz.is_c, Dz.e_star, Dz.sq_lst, Dz.sq_tup, Dz.isL_lst, Dz.e_zip2, Dz.e_enum, Dz.e_sortSet, Dz.own_own, Dz.e_sown, Dz.e_sapp, Dz.e_sput, Dz.e_sins, Dz.e_sext, Dz.e_sfrz, Dz.e_ixo, Dz.e_truo, Dz.slf_slf, Dz.e_sslf, Dz.e_mslf, Dz.e_runI2, Dz.max2, Dz.min2, Dz.e_not, Dz.e_isiT, Dz.isi_lst_lt, Dz.isi_tup_lt, List.getElem?_cons_zero, List.getElem?_cons_succ, isi_non_int, isi_non_bool, isi_non_str, isi_non_tuple, isi_non_list, isi_non_dict, isi_bl_int, isi_bl_bool, isi_bl_str, isi_bl_tuple, isi_bl_list, isi_bl_dict, isi_int_int, isi_int_bool, isi_int_str, isi_int_tuple, isi_int_list, isi_int_dict, isi_str_int, isi_str_bool, isi_str_str, isi_str_tuple, isi_str_list, isi_str_dict, isi_tup_int, isi_tup_bool, isi_tup_str, isi_tup_tuple, isi_tup_list, isi_tup_dict, isi_lst_int, isi_lst_bool, isi_lst_str, isi_lst_tuple, isi_lst_list, isi_lst_dict, isi_dic_int, isi_dic_bool, isi_dic_str, isi_dic_tuple, isi_dic_list, isi_dic_dict]
  show Dz.forM _ _ _ [.tup [.int ((0 : Nat) : Int), .bl true]] _
  unfold Dz.forM
  simp -implicitDefEqProofs only [Dz.e_rng1, Dz.e_rngQ, Dz.e_seq, Dz.e_next, Dz.e_brk, Dz.e_cont, Dz.e_drop, Dz.e_ifS, Dz.e_asg, Dz.e_par, Dz.e_ret, Dz.e_retN, Dz.e_for, Dz.e_run1, Dz.e_run2, Dz.e_run3, Dz.e_run4, Dz.e_run5, Dz.e_run6, Dz.e_run7, Dz.e_run8, Dz.e_rep0, Dz.e_rep1, Dz.e_rep2, Dz.e_rep3, Dz.e_rep4, Dz.e_rep5, Dz.e_rep6, Dz.e_rep7, Dz.e_rep8, Dz.e_rep9, Dz.e_rep10, Dz.e_rep11, Dz.e_rep12, Dz.e_rep13, Dz.e_rep14, Dz.e_rep15, Dz.e_rep16, Dz.e_rep17, Dz.e_rep18, Dz.e_rep19, Dz.e_rep20, Dz.e_rep21, Dz.e_rep22, Dz.e_rep23, Dz.e_rep24, Dz.e_rep25, Dz.e_v0, Dz.e_s0, Dz.e_v1, Dz.e_s1, Dz.e_v2, Dz.e_s2, Dz.e_v3, Dz.e_s3, Dz.e_v4, Dz.e_s4, Dz.e_v5, Dz.e_s5, Dz.e_v6, Dz.e_s6, Dz.e_v7, Dz.e_s7, Dz.e_v8, Dz.e_s8, Dz.e_v9, Dz.e_s9, Dz.e_v10, Dz.e_s10, Dz.e_v11, Dz.e_s11, Dz.e_v12, Dz.e_s12, Dz.e_v13, Dz.e_s13, Dz.e_v14, Dz.e_s14, Dz.e_v15, Dz.e_s15, Dz.e_v16, Dz.e_s16, Dz.e_v17, Dz.e_s17, Dz.e_v18, Dz.e_s18, Dz.e_v19, Dz.e_s19, Dz.e_v20, Dz.e_s20, Dz.e_v21, Dz.e_s21, Dz.e_v22, Dz.e_s22, Dz.e_v23, Dz.e_s23, Dz.e_v24, Dz.e_s24, Dz.e_v25, Dz.e_s25, Dz.e_c, Dz.e_bin, Dz.e_un, Dz.e_test, Dz.e_tru, Dz.e_and, Dz.e_or, Dz.e_not, Dz.e_yes, Dz.e_andV, Dz.e_orV, Dz.e_notV, Dz.e_orT, Dz.e_andT, Dz.e_if, Dz.e_nil, Dz.e_cons, Dz.e_tup, Dz.e_lst, Dz.e_call, Dz.e_fn, Dz.e_chain, Dz.e_noP, Dz.e_part, Dz.e_sl, Dz.e_m1, Dz.e_m0, Dz.e_gv, Dz.e_gt, Dz.e_gc, Dz.e_gn, Dz.e_lc, Dz.e_w0, Dz.e_w1, Dz.e_list, Dz.e_tupI, Dz.e_strI, Dz.tru_bl, Dz.tru_int, Dz.tru_lst, Dz.tru_tup, Dz.tru_str, Dz.len_lst, Dz.len_tup, Dz.len_str, Dz.add_int', Dz.sub_int', Dz.lt_int', Dz.le_int', Dz.gt_int', Dz.ge_int', Dz.eq_int', Dz.ne_int', Dz.eq_str', Dz.ne_str', Dz.asBl_bl, Dz.asStr_str, Dz.asInt_int, Dz.asLst_lst, Dz.asTup_tup, Dz.add_str', Dz.add_lst', Dz.add_tup', Dz.mul_int', Dz.mul_str', Dz.mod_int'', Dz.div_int', Dz.ix_lst', Dz.ix_tup', Dz.ix_str', Dz.sl_lst', Dz.sl_tup', Dz.sl_str', Dz.neg_int', Dz.at0, Dz.at1, Dz.at2, Dz.at3, Dz.at4, Dz.at5, Dz.at6, Dz.at7, Dz.int_int', Dz.int_bl', Dz.tupF_lst, Dz.tupF_tup, Dz.lstF_lst, Dz.lstF_tup, Dz.is_bl', Dz.not_bl', Dz.take_eq, Dz.some_some, Dz.two_eq, List.length_cons, List.length_nil, List.map_cons, List.map_nil, List.append_nil, List.cons_append, List.nil_append, Nat.reduceAdd, Nat.reduceSub, Nat.reduceLeDiff, Nat.zero_add, Int.toNat_natCast, if_true, if_false, Bool.false_eq_true, Bool.not_true, Bool.not_false, true_and, and_true, ite_true, ite_false, Dz.e_fld, Dz.obj_f, Dz.e_meth, Dz.is_obj, Dz.e_make, Dz.e_own1, Dz.e_ownIn, Dz.is_c, Dz.e_star, Dz.sq_lst, Dz.sq_tup, Dz.isL_lst, Dz.e_zip2, Dz.e_enum, Dz.e_sortSet, Dz.own_own, Dz.e_sown, Dz.e_sapp, Dz.e_sput, Dz.e_sins, Dz.e_sext, Dz.e_sfrz, Dz.e_ixo, Dz.e_truo, Dz.slf_slf, Dz.e_sslf, Dz.e_mslf, Dz.e_runI2, Dz.max2, Dz.min2, Dz.e_not, Dz.e_isiT, Dz.isi_lst_lt, Dz.isi_tup_lt, List.getElem?_cons_zero, List.getElem?_cons_succ, isi_non_int, isi_non_bool, isi_non_str, isi_non_tuple, isi_non_list, isi_non_dict, isi_bl_int, isi_bl_bool, isi_bl_str, isi_bl_tuple, isi_bl_list, isi_bl_dict, isi_int_int, isi_int_bool, isi_int_str, isi_int_tuple, isi_int_list, isi_int_dict, isi_str_int, isi_str_bool, isi_str_str, isi_str_tuple, isi_str_list, isi_str_dict, isi_tup_int, isi_tup_bool, isi_tup_str, isi_tup_tuple, isi_tup_list, isi_tup_dict, isi_lst_int, isi_lst_bool, isi_lst_str, isi_lst_tuple, isi_lst_list, isi_lst_dict, isi_dic_int, isi_dic_bool, isi_dic_str, isi_dic_tuple, isi_dic_list, isi_dic_dict]
  unfold Dz.forM
  exact h
end K23

namespace K23
open PySem PySem.Spec PyProof.Rows L2 Dz DY
theorem ix_last (n : Nat) : ixN (n + 1) (-1) = some n := by
  unfold ixN
  rw [if_neg (by omega), if_pos (by omega)]
  congr 1
  omega
theorem at_last {α : Type} (xs : List α) (x : α) : atI (xs ++ [x]) (-1) = some x := by
  unfold atI
  rw [List.length_append, show xs.length + [x].length = xs.length + 1 from rfl, ix_last]
  simp
theorem sps_app (S T : List (Int × Int)) : sps (S ++ T) = sps S ++ sps T := List.map_append
theorem sps_cons (p : Int × Int) (T : List (Int × Int)) : sps (p :: T) = pr p :: sps T := rfl
theorem sort_spec (S : List (Int × Int)) (hS : Inr S) (hl : S.length < 64) (Q : D → Prop) (h : ∀ S', S'.Perm S → (S'.Pairwise fun p q => p.1 ≤ q.1) → Q (.lst (sps S'))) : sortF 2 1000000001 [.lst (sps S)] Q := by
  let f : Int × Int → List Int := fun p => [p.1, p.2]
  let g : List Int → Int × Int := fun n => (n.getD 0 0, n.getD 1 0)
  have gf : ∀ p, g (f p) = p := fun p => rfl
  have ef : ∀ T : List (Int × Int), sps T = (T.map f).map tupI := fun T => by
    unfold sps
    rw [List.map_map]
    rfl
  refine ⟨S.map f, ef S, by rw [List.length_map]; exact hl, fun n hn => ?_, fun L' hp hw => ?_⟩
  · obtain ⟨p, hp, rfl⟩ := List.mem_map.mp hn
    have b := hS p hp
    refine ⟨rfl, fun m hm => ?_⟩
    have : m = p.1 ∨ m = p.2 := by simpa [f] using hm
    have t : top = 1000000000 := rfl
    rcases this with rfl | rfl <;> omega
  · have back : (L'.map g).map f = L' := by
      rw [List.map_map]
      conv => rhs; rw [← List.map_id L']
      apply List.map_congr_left
      intro n hn
      obtain ⟨p, _, rfl⟩ := List.mem_map.mp (hp.subset hn)
      rfl
    have perm : (L'.map g).Perm S := by
      have := hp.map g
      rw [List.map_map] at this
      have e : S.map (g ∘ f) = S := by
        conv => rhs; rw [← List.map_id S]
        rfl
      rwa [e] at this
    rw [← back, ← ef]
    refine h _ perm ?_
    have hw2 : ((L'.map g).map f).Pairwise fun n m => TS.code 1000000001 n ≤ TS.code 1000000001 m := by rw [back]; exact hw
    rw [List.pairwise_map] at hw2
    refine (List.Pairwise.imp_of_mem ?_) hw2
    intro p q hp1 hq1 hc
    have b1 := hS p (perm.subset hp1)
    have b2 := hS q (perm.subset hq1)
    have t : top = 1000000000 := rfl
    simp only [f, TS.code, List.length_cons, List.length_nil, Nat.zero_add, Int.pow_zero, Int.mul_one, Int.add_zero, Int.reducePow] at hc
    omega
theorem kept_start {S S' : List (Int × Int)} (hS : Inr S) (hp : S'.Perm S) (hs : S'.Pairwise fun p q => p.1 ≤ q.1) : Kept S [] S' :=
  ⟨⟨.nil, fun p z => (by cases z)⟩, fun p z => (by cases z), fun p h => hS p (hp.subset h), hs, fun p z => (by cases z), fun x => by
    show has S' x = has S x
    rw [Bool.eq_iff_iff, has_iff, has_iff]
    exact ⟨fun ⟨p, h, q⟩ => ⟨p, hp.subset h, q⟩, fun ⟨p, h, q⟩ => ⟨p, hp.symm.subset h, q⟩⟩, by rw [hp.length_eq]; simp⟩
theorem few_spec (c : Cs) (S : List (Int × Int)) (hS : Inr S) (hl : S.length < 64) (Q : D → Prop) (h : ∀ F, Canon F → Inr F → (∀ x, has F x = has S x) → F.length ≤ S.length → Q (.tup (sps F))) : m__fewest c [.lst (sps S)] Q := by
  unfold m__fewest
  simp -implicitDefEqProofs only [Dz.e_rng1, Dz.e_rngQ, Dz.e_seq, Dz.e_next, Dz.e_brk, Dz.e_cont, Dz.e_drop, Dz.e_ifS, Dz.e_asg, Dz.e_par, Dz.e_ret, Dz.e_retN, Dz.e_for, Dz.e_run1, Dz.e_run2, Dz.e_run3, Dz.e_run4, Dz.e_run5, Dz.e_run6, Dz.e_run7, Dz.e_run8, Dz.e_rep0, Dz.e_rep1, Dz.e_rep2, Dz.e_rep3, Dz.e_rep4, Dz.e_rep5, Dz.e_rep6, Dz.e_rep7, Dz.e_rep8, Dz.e_rep9, Dz.e_rep10, Dz.e_rep11, Dz.e_rep12, Dz.e_rep13, Dz.e_rep14, Dz.e_rep15, Dz.e_rep16, Dz.e_rep17, Dz.e_rep18, Dz.e_rep19, Dz.e_rep20, Dz.e_rep21, Dz.e_rep22, Dz.e_rep23, Dz.e_rep24, Dz.e_rep25, Dz.e_v0, Dz.e_s0, Dz.e_v1, Dz.e_s1, Dz.e_v2, Dz.e_s2, Dz.e_v3, Dz.e_s3, Dz.e_v4, Dz.e_s4, Dz.e_v5, Dz.e_s5, Dz.e_v6, Dz.e_s6, Dz.e_v7, Dz.e_s7, Dz.e_v8, Dz.e_s8, Dz.e_v9, Dz.e_s9, Dz.e_v10, Dz.e_s10, Dz.e_v11, Dz.e_s11, Dz.e_v12, Dz.e_s12, Dz.e_v13, Dz.e_s13, Dz.e_v14, Dz.e_s14, Dz.e_v15, Dz.e_s15, Dz.e_v16, Dz.e_s16, Dz.e_v17, Dz.e_s17, Dz.e_v18, Dz.e_s18, Dz.e_v19, Dz.e_s19, Dz.e_v20, Dz.e_s20, Dz.e_v21, Dz.e_s21, Dz.e_v22, Dz.e_s22, Dz.e_v23, Dz.e_s23, Dz.e_v24, Dz.e_s24, Dz.e_v25, Dz.e_s25, Dz.e_c, Dz.e_bin, Dz.e_un, Dz.e_test, Dz.e_tru, Dz.e_and, Dz.e_or, Dz.e_not, Dz.e_yes, Dz.e_andV, Dz.e_orV, Dz.e_notV, Dz.e_orT, Dz.e_andT, Dz.e_if, Dz.e_nil, Dz.e_cons, Dz.e_tup, Dz.e_lst, Dz.e_call, Dz.e_fn, Dz.e_chain, Dz.e_noP, Dz.e_part, Dz.e_sl, Dz.e_m1, Dz.e_m0, Dz.e_gv, Dz.e_gt, Dz.e_gc, Dz.e_gn, Dz.e_lc, Dz.e_w0, Dz.e_w1, Dz.e_list, Dz.e_tupI, Dz.e_strI, Dz.tru_bl, Dz.tru_int, Dz.tru_lst, Dz.tru_tup, Dz.tru_str, Dz.len_lst, Dz.len_tup, Dz.len_str, Dz.add_int', Dz.sub_int', Dz.lt_int', Dz.le_int', Dz.gt_int', Dz.ge_int', Dz.eq_int', Dz.ne_int', Dz.eq_str', Dz.ne_str', Dz.asBl_bl, Dz.asStr_str, Dz.asInt_int, Dz.asLst_lst, Dz.asTup_tup, Dz.add_str', Dz.add_lst', Dz.add_tup', Dz.mul_int', Dz.mul_str', Dz.mod_int'', Dz.div_int', Dz.ix_lst', Dz.ix_tup', Dz.ix_str', Dz.sl_lst', Dz.sl_tup', Dz.sl_str', Dz.neg_int', Dz.at0, Dz.at1, Dz.at2, Dz.at3, Dz.at4, Dz.at5, Dz.at6, Dz.at7, Dz.int_int', Dz.int_bl', Dz.tupF_lst, Dz.tupF_tup, Dz.lstF_lst, Dz.lstF_tup, Dz.is_bl', Dz.not_bl', Dz.take_eq, Dz.some_some, Dz.two_eq, List.length_cons, List.length_nil, List.map_cons, List.map_nil, List.append_nil, List.cons_append, List.nil_append, Nat.reduceAdd, Nat.reduceSub, Nat.reduceLeDiff, Nat.zero_add, Int.toNat_natCast, if_true, if_false, Bool.false_eq_true, Bool.not_true, Bool.not_false, true_and, and_true, ite_true, ite_false, Dz.e_fld, Dz.obj_f, Dz.e_meth, Dz.is_obj, Dz.e_make, Dz.e_own1, Dz.e_ownIn, Dz.is_c, Dz.e_star, Dz.sq_lst, Dz.sq_tup, Dz.isL_lst, Dz.e_zip2, Dz.e_enum, Dz.e_sortSet, Dz.own_own, Dz.e_sown, Dz.e_sapp, Dz.e_sput, Dz.e_sins, Dz.e_sext, Dz.e_sfrz, Dz.e_ixo, Dz.e_truo, Dz.slf_slf, Dz.e_sslf, Dz.e_mslf, Dz.e_runI2, Dz.max2, Dz.min2, Dz.e_not, Dz.e_isiT, Dz.isi_lst_lt, Dz.isi_tup_lt, List.getElem?_cons_zero, List.getElem?_cons_succ, isi_non_int, isi_non_bool, isi_non_str, isi_non_tuple, isi_non_list, isi_non_dict, isi_bl_int, isi_bl_bool, isi_bl_str, isi_bl_tuple, isi_bl_list, isi_bl_dict, isi_int_int, isi_int_bool, isi_int_str, isi_int_tuple, isi_int_list, isi_int_dict, isi_str_int, isi_str_bool, isi_str_str, isi_str_tuple, isi_str_list, isi_str_dict, isi_tup_int, isi_tup_bool, isi_tup_str, isi_tup_tuple, isi_tup_list, isi_tup_dict, isi_lst_int, isi_lst_bool, isi_lst_str, isi_lst_tuple, isi_lst_list, isi_lst_dict, isi_dic_int, isi_dic_bool, isi_dic_str, isi_dic_tuple, isi_dic_list, isi_dic_dict]
  refine ⟨by decide, sort_spec S hS hl _ fun S' hp hs => ?_⟩
  simp -implicitDefEqProofs only [Dz.e_rng1, Dz.e_rngQ, Dz.e_seq, Dz.e_next, Dz.e_brk, Dz.e_cont, Dz.e_drop, Dz.e_ifS, Dz.e_asg, Dz.e_par, Dz.e_ret, Dz.e_retN, Dz.e_for, Dz.e_run1, Dz.e_run2, Dz.e_run3, Dz.e_run4, Dz.e_run5, Dz.e_run6, Dz.e_run7, Dz.e_run8, Dz.e_rep0, Dz.e_rep1, Dz.e_rep2, Dz.e_rep3, Dz.e_rep4, Dz.e_rep5, Dz.e_rep6, Dz.e_rep7, Dz.e_rep8, Dz.e_rep9, Dz.e_rep10, Dz.e_rep11, Dz.e_rep12, Dz.e_rep13, Dz.e_rep14, Dz.e_rep15, Dz.e_rep16, Dz.e_rep17, Dz.e_rep18, Dz.e_rep19, Dz.e_rep20, Dz.e_rep21, Dz.e_rep22, Dz.e_rep23, Dz.e_rep24, Dz.e_rep25, Dz.e_v0, Dz.e_s0, Dz.e_v1, Dz.e_s1, Dz.e_v2, Dz.e_s2, Dz.e_v3, Dz.e_s3, Dz.e_v4, Dz.e_s4, Dz.e_v5, Dz.e_s5, Dz.e_v6, Dz.e_s6, Dz.e_v7, Dz.e_s7, Dz.e_v8, Dz.e_s8, Dz.e_v9, Dz.e_s9, Dz.e_v10, Dz.e_s10, Dz.e_v11, Dz.e_s11, Dz.e_v12, Dz.e_s12, Dz.e_v13, Dz.e_s13, Dz.e_v14, Dz.e_s14, Dz.e_v15, Dz.e_s15, Dz.e_v16, Dz.e_s16, Dz.e_v17, Dz.e_s17, Dz.e_v18, Dz.e_s18, Dz.e_v19, Dz.e_s19, Dz.e_v20, Dz.e_s20, Dz.e_v21, Dz.e_s21, Dz.e_v22, Dz.e_s22, Dz.e_v23, Dz.e_s23, Dz.e_v24, Dz.e_s24, Dz.e_v25, Dz.e_s25, Dz.e_c, Dz.e_bin, Dz.e_un, Dz.e_test, Dz.e_tru, Dz.e_and, Dz.e_or, Dz.e_not, Dz.e_yes, Dz.e_andV, Dz.e_orV, Dz.e_notV, Dz.e_orT, Dz.e_andT, Dz.e_if, Dz.e_nil, Dz.e_cons, Dz.e_tup, Dz.e_lst, Dz.e_call, Dz.e_fn, Dz.e_chain, Dz.e_noP, Dz.e_part, Dz.e_sl, Dz.e_m1, Dz.e_m0, Dz.e_gv, Dz.e_gt, Dz.e_gc, Dz.e_gn, Dz.e_lc, Dz.e_w0, Dz.e_w1, Dz.e_list, Dz.e_tupI, Dz.e_strI, Dz.tru_bl, Dz.tru_int, Dz.tru_lst, Dz.tru_tup, Dz.tru_str, Dz.len_lst, Dz.len_tup, Dz.len_str, Dz.add_int', Dz.sub_int', Dz.lt_int', Dz.le_int', Dz.gt_int', Dz.ge_int', Dz.eq_int', Dz.ne_int', Dz.eq_str', Dz.ne_str', Dz.asBl_bl, Dz.asStr_str, Dz.asInt_int, Dz.asLst_lst, Dz.asTup_tup, Dz.add_str', Dz.add_lst', Dz.add_tup', Dz.mul_int', Dz.mul_str', Dz.mod_int'', Dz.div_int', Dz.ix_lst', Dz.ix_tup', Dz.ix_str', Dz.sl_lst', Dz.sl_tup', Dz.sl_str', Dz.neg_int', Dz.at0, Dz.at1, Dz.at2, Dz.at3, Dz.at4, Dz.at5, Dz.at6, Dz.at7, Dz.int_int', Dz.int_bl', Dz.tupF_lst, Dz.tupF_tup, Dz.lstF_lst, Dz.lstF_tup, Dz.is_bl', Dz.not_bl', Dz.take_eq, Dz.some_some, Dz.two_eq, List.length_cons, List.length_nil, List.map_cons, List.map_nil, List.append_nil, List.cons_append, List.nil_append, Nat.reduceAdd, Nat.reduceSub, Nat.reduceLeDiff, Nat.zero_add, Int.toNat_natCast, if_true, if_false, Bool.false_eq_true, Bool.not_true, Bool.not_false, true_and, and_true, ite_true, ite_false, Dz.e_fld, Dz.obj_f, Dz.e_meth, Dz.is_obj, Dz.e_make, Dz.e_own1, Dz.e_ownIn, Dz.is_c, Dz.e_star, Dz.sq_lst, Dz.sq_tup, Dz.isL_lst, Dz.e_zip2, Dz.e_enum, Dz.e_sortSet, Dz.own_own, Dz.e_sown, Dz.e_sapp, Dz.e_sput, Dz.e_sins, Dz.e_sext, Dz.e_sfrz, Dz.e_ixo, Dz.e_truo, Dz.slf_slf, Dz.e_sslf, Dz.e_mslf, Dz.e_runI2, Dz.max2, Dz.min2, Dz.e_not, Dz.e_isiT, Dz.isi_lst_lt, Dz.isi_tup_lt, List.getElem?_cons_zero, List.getElem?_cons_succ, isi_non_int, isi_non_bool, isi_non_str, isi_non_tuple, isi_non_list, isi_non_dict, isi_bl_int, isi_bl_bool, isi_bl_str, isi_bl_tuple, isi_bl_list, isi_bl_dict, isi_int_int, isi_int_bool, isi_int_str, isi_int_tuple, isi_int_list, isi_int_dict, isi_str_int, isi_str_bool, isi_str_str, isi_str_tuple, isi_str_list, isi_str_dict, isi_tup_int, isi_tup_bool, isi_tup_str, isi_tup_tuple, isi_tup_list, isi_tup_dict, isi_lst_int, isi_lst_bool, isi_lst_str, isi_lst_tuple, isi_lst_list, isi_lst_dict, isi_dic_int, isi_dic_bool, isi_dic_str, isi_dic_tuple, isi_dic_list, isi_dic_dict]
  refine for_inv (fun rest ρ => ∃ kept R x2 x3, ρ = [Slot.val (.lst (sps S)), .own (sps kept), x2, x3] ∧ rest = sps R ∧ Kept S kept R) _ _ ⟨[], S', .no, .no, rfl, rfl, kept_start hS hp hs⟩ (fun ρ hρ => ?_) (fun d ds ρ N hI hN => ?_)
  · obtain ⟨kept, R, x2, x3, rfl, e, k⟩ := hρ
    have : R = [] := by cases R with
      | nil => rfl
      | cons a R => cases e
    subst this
    simp -implicitDefEqProofs only [Dz.e_rng1, Dz.e_rngQ, Dz.e_seq, Dz.e_next, Dz.e_brk, Dz.e_cont, Dz.e_drop, Dz.e_ifS, Dz.e_asg, Dz.e_par, Dz.e_ret, Dz.e_retN, Dz.e_for, Dz.e_run1, Dz.e_run2, Dz.e_run3, Dz.e_run4, Dz.e_run5, Dz.e_run6, Dz.e_run7, Dz.e_run8, Dz.e_rep0, Dz.e_rep1, Dz.e_rep2, Dz.e_rep3, Dz.e_rep4, Dz.e_rep5, Dz.e_rep6, Dz.e_rep7, Dz.e_rep8, Dz.e_rep9, Dz.e_rep10, Dz.e_rep11, Dz.e_rep12, Dz.e_rep13, Dz.e_rep14, Dz.e_rep15, Dz.e_rep16, Dz.e_rep17, Dz.e_rep18, Dz.e_rep19, Dz.e_rep20, Dz.e_rep21, Dz.e_rep22, Dz.e_rep23, Dz.e_rep24, Dz.e_rep25, Dz.e_v0, Dz.e_s0, Dz.e_v1, Dz.e_s1, Dz.e_v2, Dz.e_s2, Dz.e_v3, Dz.e_s3, Dz.e_v4, Dz.e_s4, Dz.e_v5, Dz.e_s5, Dz.e_v6, Dz.e_s6, Dz.e_v7, Dz.e_s7, Dz.e_v8, Dz.e_s8, Dz.e_v9, Dz.e_s9, Dz.e_v10, Dz.e_s10, Dz.e_v11, Dz.e_s11, Dz.e_v12, Dz.e_s12, Dz.e_v13, Dz.e_s13, Dz.e_v14, Dz.e_s14, Dz.e_v15, Dz.e_s15, Dz.e_v16, Dz.e_s16, Dz.e_v17, Dz.e_s17, Dz.e_v18, Dz.e_s18, Dz.e_v19, Dz.e_s19, Dz.e_v20, Dz.e_s20, Dz.e_v21, Dz.e_s21, Dz.e_v22, Dz.e_s22, Dz.e_v23, Dz.e_s23, Dz.e_v24, Dz.e_s24, Dz.e_v25, Dz.e_s25, Dz.e_c, Dz.e_bin, Dz.e_un, Dz.e_test, Dz.e_tru, Dz.e_and, Dz.e_or, Dz.e_not, Dz.e_yes, Dz.e_andV, Dz.e_orV, Dz.e_notV, Dz.e_orT, Dz.e_andT, Dz.e_if, Dz.e_nil, Dz.e_cons, Dz.e_tup, Dz.e_lst, Dz.e_call, Dz.e_fn, Dz.e_chain, Dz.e_noP, Dz.e_part, Dz.e_sl, Dz.e_m1, Dz.e_m0, Dz.e_gv, Dz.e_gt, Dz.e_gc, Dz.e_gn, Dz.e_lc, Dz.e_w0, Dz.e_w1, Dz.e_list, Dz.e_tupI, Dz.e_strI, Dz.tru_bl, Dz.tru_int, Dz.tru_lst, Dz.tru_tup, Dz.tru_str, Dz.len_lst, Dz.len_tup, Dz.len_str, Dz.add_int', Dz.sub_int', Dz.lt_int', Dz.le_int', Dz.gt_int', Dz.ge_int', Dz.eq_int', Dz.ne_int', Dz.eq_str', Dz.ne_str', Dz.asBl_bl, Dz.asStr_str, Dz.asInt_int, Dz.asLst_lst, Dz.asTup_tup, Dz.add_str', Dz.add_lst', Dz.add_tup', Dz.mul_int', Dz.mul_str', Dz.mod_int'', Dz.div_int', Dz.ix_lst', Dz.ix_tup', Dz.ix_str', Dz.sl_lst', Dz.sl_tup', Dz.sl_str', Dz.neg_int', Dz.at0, Dz.at1, Dz.at2, Dz.at3, Dz.at4, Dz.at5, Dz.at6, Dz.at7, Dz.int_int', Dz.int_bl', Dz.tupF_lst, Dz.tupF_tup, Dz.lstF_lst, Dz.lstF_tup, Dz.is_bl', Dz.not_bl', Dz.take_eq, Dz.some_some, Dz.two_eq, List.length_cons, List.length_nil, List.map_cons, List.map_nil, List.append_nil, List.cons_append, List.nil_append, Nat.reduceAdd, Nat.reduceSub, Nat.reduceLeDiff, Nat.zero_add, Int.toNat_natCast, if_true, if_false, Bool.false_eq_true, Bool.not_true, Bool.not_false, true_and, and_true, ite_true, ite_false, Dz.e_fld, Dz.obj_f, Dz.e_meth, Dz.is_obj, Dz.e_make, Dz.e_own1, Dz.e_ownIn, Dz.is_c, Dz.e_star, Dz.sq_lst, Dz.sq_tup, Dz.isL_lst, Dz.e_zip2, Dz.e_enum, Dz.e_sortSet, Dz.own_own, Dz.e_sown, Dz.e_sapp, Dz.e_sput, Dz.e_sins, Dz.e_sext, Dz.e_sfrz, Dz.e_ixo, Dz.e_truo, Dz.slf_slf, Dz.e_sslf, Dz.e_mslf, Dz.e_runI2, Dz.max2, Dz.min2, Dz.e_not, Dz.e_isiT, Dz.isi_lst_lt, Dz.isi_tup_lt, List.getElem?_cons_zero, List.getElem?_cons_succ, isi_non_int, isi_non_bool, isi_non_str, isi_non_tuple, isi_non_list, isi_non_dict, isi_bl_int, isi_bl_bool, isi_bl_str, isi_bl_tuple, isi_bl_list, isi_bl_dict, isi_int_int, isi_int_bool, isi_int_str, isi_int_tuple, isi_int_list, isi_int_dict, isi_str_int, isi_str_bool, isi_str_str, isi_str_tuple, isi_str_list, isi_str_dict, isi_tup_int, isi_tup_bool, isi_tup_str, isi_tup_tuple, isi_tup_list, isi_tup_dict, isi_lst_int, isi_lst_bool, isi_lst_str, isi_lst_tuple, isi_lst_list, isi_lst_dict, isi_dic_int, isi_dic_bool, isi_dic_str, isi_dic_tuple, isi_dic_list, isi_dic_dict]
    refine h kept k.can k.inr (fun x => ?_) (by have := k.len; simpa using this)
    have := k.all x
    rwa [show has [] x = false from rfl, Bool.or_false] at this
  · obtain ⟨kept, R, x2, x3, rfl, e, k⟩ := hI
    match R, e, k with
    | p :: R, e, k =>
      rw [sps_cons] at e
      cases e
      unfold pr
      simp -implicitDefEqProofs only [Dz.e_rng1, Dz.e_rngQ, Dz.e_seq, Dz.e_next, Dz.e_brk, Dz.e_cont, Dz.e_drop, Dz.e_ifS, Dz.e_asg, Dz.e_par, Dz.e_ret, Dz.e_retN, Dz.e_for, Dz.e_run1, Dz.e_run2, Dz.e_run3, Dz.e_run4, Dz.e_run5, Dz.e_run6, Dz.e_run7, Dz.e_run8, Dz.e_rep0, Dz.e_rep1, Dz.e_rep2, Dz.e_rep3, Dz.e_rep4, Dz.e_rep5, Dz.e_rep6, Dz.e_rep7, Dz.e_rep8, Dz.e_rep9, Dz.e_rep10, Dz.e_rep11, Dz.e_rep12, Dz.e_rep13, Dz.e_rep14, Dz.e_rep15, Dz.e_rep16, Dz.e_rep17, Dz.e_rep18, Dz.e_rep19, Dz.e_rep20, Dz.e_rep21, Dz.e_rep22, Dz.e_rep23, Dz.e_rep24, Dz.e_rep25, Dz.e_v0, Dz.e_s0, Dz.e_v1, Dz.e_s1, Dz.e_v2, Dz.e_s2, Dz.e_v3, Dz.e_s3, Dz.e_v4, Dz.e_s4, Dz.e_v5, Dz.e_s5, Dz.e_v6, Dz.e_s6, Dz.e_v7, Dz.e_s7, Dz.e_v8, Dz.e_s8, Dz.e_v9, Dz.e_s9, Dz.e_v10, Dz.e_s10, Dz.e_v11, Dz.e_s11, Dz.e_v12, Dz.e_s12, Dz.e_v13, Dz.e_s13, Dz.e_v14, Dz.e_s14, Dz.e_v15, Dz.e_s15, Dz.e_v16, Dz.e_s16, Dz.e_v17, Dz.e_s17, Dz.e_v18, Dz.e_s18, Dz.e_v19, Dz.e_s19, Dz.e_v20, Dz.e_s20, Dz.e_v21, Dz.e_s21, Dz.e_v22, Dz.e_s22, Dz.e_v23, Dz.e_s23, Dz.e_v24, Dz.e_s24, Dz.e_v25, Dz.e_s25, Dz.e_c, Dz.e_bin, Dz.e_un, Dz.e_test, Dz.e_tru, Dz.e_and, Dz.e_or, Dz.e_not, Dz.e_yes, Dz.e_andV, Dz.e_orV, Dz.e_notV, Dz.e_orT, Dz.e_andT, Dz.e_if, Dz.e_nil, Dz.e_cons, Dz.e_tup, Dz.e_lst, Dz.e_call, Dz.e_fn, Dz.e_chain, Dz.e_noP, Dz.e_part, Dz.e_sl, Dz.e_m1, Dz.e_m0, Dz.e_gv, Dz.e_gt, Dz.e_gc, Dz.e_gn, Dz.e_lc, Dz.e_w0, Dz.e_w1, Dz.e_list, Dz.e_tupI, Dz.e_strI, Dz.tru_bl, Dz.tru_int, Dz.tru_lst, Dz.tru_tup, Dz.tru_str, Dz.len_lst, Dz.len_tup, Dz.len_str, Dz.add_int', Dz.sub_int', Dz.lt_int', Dz.le_int', Dz.gt_int', Dz.ge_int', Dz.eq_int', Dz.ne_int', Dz.eq_str', Dz.ne_str', Dz.asBl_bl, Dz.asStr_str, Dz.asInt_int, Dz.asLst_lst, Dz.asTup_tup, Dz.add_str', Dz.add_lst', Dz.add_tup', Dz.mul_int', Dz.mul_str', Dz.mod_int'', Dz.div_int', Dz.ix_lst', Dz.ix_tup', Dz.ix_str', Dz.sl_lst', Dz.sl_tup', Dz.sl_str', Dz.neg_int', Dz.at0, Dz.at1, Dz.at2, Dz.at3, Dz.at4, Dz.at5, Dz.at6, Dz.at7, Dz.int_int', Dz.int_bl', Dz.tupF_lst, Dz.tupF_tup, Dz.lstF_lst, Dz.lstF_tup, Dz.is_bl', Dz.not_bl', Dz.take_eq, Dz.some_some, Dz.two_eq, List.length_cons, List.length_nil, List.map_cons, List.map_nil, List.append_nil, List.cons_append, List.nil_append, Nat.reduceAdd, Nat.reduceSub, Nat.reduceLeDiff, Nat.zero_add, Int.toNat_natCast, if_true, if_false, Bool.false_eq_true, Bool.not_true, Bool.not_false, true_and, and_true, ite_true, ite_false, Dz.e_fld, Dz.obj_f, Dz.e_meth, Dz.is_obj, Dz.e_make, Dz.e_own1, Dz.e_ownIn, Dz.is_c, Dz.e_star, Dz.sq_lst, Dz.sq_tup, Dz.isL_lst, Dz.e_zip2, Dz.e_enum, Dz.e_sortSet, Dz.own_own, Dz.e_sown, Dz.e_sapp, Dz.e_sput, Dz.e_sins, Dz.e_sext, Dz.e_sfrz, Dz.e_ixo, Dz.e_truo, Dz.slf_slf, Dz.e_sslf, Dz.e_mslf, Dz.e_runI2, Dz.max2, Dz.min2, Dz.e_not, Dz.e_isiT, Dz.isi_lst_lt, Dz.isi_tup_lt, List.getElem?_cons_zero, List.getElem?_cons_succ, isi_non_int, isi_non_bool, isi_non_str, isi_non_tuple, isi_non_list, isi_non_dict, isi_bl_int, isi_bl_bool, isi_bl_str, isi_bl_tuple, isi_bl_list, isi_bl_dict, isi_int_int, isi_int_bool, isi_int_str, isi_int_tuple, isi_int_list, isi_int_dict, isi_str_int, isi_str_bool, isi_str_str, isi_str_tuple, isi_str_list, isi_str_dict, isi_tup_int, isi_tup_bool, isi_tup_str, isi_tup_tuple, isi_tup_list, isi_tup_dict, isi_lst_int, isi_lst_bool, isi_lst_str, isi_lst_tuple, isi_lst_list, isi_lst_dict, isi_dic_int, isi_dic_bool, isi_dic_str, isi_dic_tuple, isi_dic_list, isi_dic_dict]
      by_cases h1 : p.2 < p.1
      · rw [if_pos (decide_eq_true h1)]
        exact hN _ ⟨kept, R, _, _, rfl, rfl, k.skip h1⟩
      · rw [if_neg (by rw [decide_eq_false h1]; simp)]
        have h2 : p.1 ≤ p.2 := by omega
        rcases List.eq_nil_or_concat kept with rfl | ⟨init, l, e⟩
        · rw [if_neg (by simp [sps])]
          refine ⟨by decide, by decide, ?_⟩
          exact hN _ ⟨[p], R, _, _, rfl, rfl, k.push h2 fun q hq => by cases hq⟩
        · rw [List.concat_eq_append] at e
          subst e
          have e1 : sps (init ++ [l]) = sps init ++ [pr l] := sps_app _ _
          rw [e1, if_pos (by simp), at_last]
          unfold pr
          simp -implicitDefEqProofs only [Dz.e_rng1, Dz.e_rngQ, Dz.e_seq, Dz.e_next, Dz.e_brk, Dz.e_cont, Dz.e_drop, Dz.e_ifS, Dz.e_asg, Dz.e_par, Dz.e_ret, Dz.e_retN, Dz.e_for, Dz.e_run1, Dz.e_run2, Dz.e_run3, Dz.e_run4, Dz.e_run5, Dz.e_run6, Dz.e_run7, Dz.e_run8, Dz.e_rep0, Dz.e_rep1, Dz.e_rep2, Dz.e_rep3, Dz.e_rep4, Dz.e_rep5, Dz.e_rep6, Dz.e_rep7, Dz.e_rep8, Dz.e_rep9, Dz.e_rep10, Dz.e_rep11, Dz.e_rep12, Dz.e_rep13, Dz.e_rep14, Dz.e_rep15, Dz.e_rep16, Dz.e_rep17, Dz.e_rep18, Dz.e_rep19, Dz.e_rep20, Dz.e_rep21, Dz.e_rep22, Dz.e_rep23, Dz.e_rep24, Dz.e_rep25, Dz.e_v0, Dz.e_s0, Dz.e_v1, Dz.e_s1, Dz.e_v2, Dz.e_s2, Dz.e_v3, Dz.e_s3, Dz.e_v4, Dz.e_s4, Dz.e_v5, Dz.e_s5, Dz.e_v6, Dz.e_s6, Dz.e_v7, Dz.e_s7, Dz.e_v8, Dz.e_s8, Dz.e_v9, Dz.e_s9, Dz.e_v10, Dz.e_s10, Dz.e_v11, Dz.e_s11, Dz.e_v12, Dz.e_s12, Dz.e_v13, Dz.e_s13, Dz.e_v14, Dz.e_s14, Dz.e_v15, Dz.e_s15, Dz.e_v16, Dz.e_s16, Dz.e_v17, Dz.e_s17, Dz.e_v18, Dz.e_s18, Dz.e_v19, Dz.e_s19, Dz.e_v20, Dz.e_s20, Dz.e_v21, Dz.e_s21, Dz.e_v22, Dz.e_s22, Dz.e_v23, Dz.e_s23, Dz.e_v24, Dz.e_s24, Dz.e_v25, Dz.e_s25, Dz.e_c, Dz.e_bin, Dz.e_un, Dz.e_test, Dz.e_tru, Dz.e_and, Dz.e_or, Dz.e_not, Dz.e_yes, Dz.e_andV, Dz.e_orV, Dz.e_notV, Dz.e_orT, Dz.e_andT, Dz.e_if, Dz.e_nil, Dz.e_cons, Dz.e_tup, Dz.e_lst, Dz.e_call, Dz.e_fn, Dz.e_chain, Dz.e_noP, Dz.e_part, Dz.e_sl, Dz.e_m1, Dz.e_m0, Dz.e_gv, Dz.e_gt, Dz.e_gc, Dz.e_gn, Dz.e_lc, Dz.e_w0, Dz.e_w1, Dz.e_list, Dz.e_tupI, Dz.e_strI, Dz.tru_bl, Dz.tru_int, Dz.tru_lst, Dz.tru_tup, Dz.tru_str, Dz.len_lst, Dz.len_tup, Dz.len_str, Dz.add_int', Dz.sub_int', Dz.lt_int', Dz.le_int', Dz.gt_int', Dz.ge_int', Dz.eq_int', Dz.ne_int', Dz.eq_str', Dz.ne_str', Dz.asBl_bl, Dz.asStr_str, Dz.asInt_int, Dz.asLst_lst, Dz.asTup_tup, Dz.add_str', Dz.add_lst', Dz.add_tup', Dz.mul_int', Dz.mul_str', Dz.mod_int'', Dz.div_int', Dz.ix_lst', Dz.ix_tup', Dz.ix_str', Dz.sl_lst', Dz.sl_tup', Dz.sl_str', Dz.neg_int', Dz.at0, Dz.at1, Dz.at2, Dz.at3, Dz.at4, Dz.at5, Dz.at6, Dz.at7, Dz.int_int', Dz.int_bl', Dz.tupF_lst, Dz.tupF_tup, Dz.lstF_lst, Dz.lstF_tup, Dz.is_bl', Dz.not_bl', Dz.take_eq, Dz.some_some, Dz.two_eq, List.length_cons, List.length_nil, List.map_cons, List.map_nil, List.append_nil, List.cons_append, List.nil_append, Nat.reduceAdd, Nat.reduceSub, Nat.reduceLeDiff, Nat.zero_add, Int.toNat_natCast, if_true, if_false, Bool.false_eq_true, Bool.not_true, Bool.not_false, true_and, and_true, ite_true, ite_false, Dz.e_fld, Dz.obj_f, Dz.e_meth, Dz.is_obj, Dz.e_make, Dz.e_own1, Dz.e_ownIn, Dz.is_c, Dz.e_star, Dz.sq_lst, Dz.sq_tup, Dz.isL_lst, Dz.e_zip2, Dz.e_enum, Dz.e_sortSet, Dz.own_own, Dz.e_sown, Dz.e_sapp, Dz.e_sput, Dz.e_sins, Dz.e_sext, Dz.e_sfrz, Dz.e_ixo, Dz.e_truo, Dz.slf_slf, Dz.e_sslf, Dz.e_mslf, Dz.e_runI2, Dz.max2, Dz.min2, Dz.e_not, Dz.e_isiT, Dz.isi_lst_lt, Dz.isi_tup_lt, List.getElem?_cons_zero, List.getElem?_cons_succ, isi_non_int, isi_non_bool, isi_non_str, isi_non_tuple, isi_non_list, isi_non_dict, isi_bl_int, isi_bl_bool, isi_bl_str, isi_bl_tuple, isi_bl_list, isi_bl_dict, isi_int_int, isi_int_bool, isi_int_str, isi_int_tuple, isi_int_list, isi_int_dict, isi_str_int, isi_str_bool, isi_str_str, isi_str_tuple, isi_str_list, isi_str_dict, isi_tup_int, isi_tup_bool, isi_tup_str, isi_tup_tuple, isi_tup_list, isi_tup_dict, isi_lst_int, isi_lst_bool, isi_lst_str, isi_lst_tuple, isi_lst_list, isi_lst_dict, isi_dic_int, isi_dic_bool, isi_dic_str, isi_dic_tuple, isi_dic_list, isi_dic_dict]
          by_cases h3 : p.1 ≤ l.2 + 1
          · rw [if_pos (decide_eq_true h3)]
            refine ⟨by decide, ?_⟩
            unfold putM
            rw [List.length_append, show (sps init).length + ([D.tup [.int l.1, .int l.2]] : List D).length = (sps init).length + 1 from rfl, ix_last]
            refine hN _ ⟨init ++ [(l.1, if l.2 > p.2 then l.2 else p.2)], R, .val (.int p.1), .val (.int p.2), ?_, rfl, k.join h2 h3⟩
            rw [sps_app]
            simp -implicitDefEqProofs only [Dz.e_rng1, Dz.e_rngQ, Dz.e_seq, Dz.e_next, Dz.e_brk, Dz.e_cont, Dz.e_drop, Dz.e_ifS, Dz.e_asg, Dz.e_par, Dz.e_ret, Dz.e_retN, Dz.e_for, Dz.e_run1, Dz.e_run2, Dz.e_run3, Dz.e_run4, Dz.e_run5, Dz.e_run6, Dz.e_run7, Dz.e_run8, Dz.e_rep0, Dz.e_rep1, Dz.e_rep2, Dz.e_rep3, Dz.e_rep4, Dz.e_rep5, Dz.e_rep6, Dz.e_rep7, Dz.e_rep8, Dz.e_rep9, Dz.e_rep10, Dz.e_rep11, Dz.e_rep12, Dz.e_rep13, Dz.e_rep14, Dz.e_rep15, Dz.e_rep16, Dz.e_rep17, Dz.e_rep18, Dz.e_rep19, Dz.e_rep20, Dz.e_rep21, Dz.e_rep22, Dz.e_rep23, Dz.e_rep24, Dz.e_rep25, Dz.e_v0, Dz.e_s0, Dz.e_v1, Dz.e_s1, Dz.e_v2, Dz.e_s2, Dz.e_v3, Dz.e_s3, Dz.e_v4, Dz.e_s4, Dz.e_v5, Dz.e_s5, Dz.e_v6, Dz.e_s6, Dz.e_v7, Dz.e_s7, Dz.e_v8, Dz.e_s8, Dz.e_v9, Dz.e_s9, Dz.e_v10, Dz.e_s10, Dz.e_v11, Dz.e_s11, Dz.e_v12, Dz.e_s12, Dz.e_v13, Dz.e_s13, Dz.e_v14, Dz.e_s14, Dz.e_v15, Dz.e_s15, Dz.e_v16, Dz.e_s16, Dz.e_v17, Dz.e_s17, Dz.e_v18, Dz.e_s18, Dz.e_v19, Dz.e_s19, Dz.e_v20, Dz.e_s20, Dz.e_v21, Dz.e_s21, Dz.e_v22, Dz.e_s22, Dz.e_v23, Dz.e_s23, Dz.e_v24, Dz.e_s24, Dz.e_v25, Dz.e_s25, Dz.e_c, Dz.e_bin, Dz.e_un, Dz.e_test, Dz.e_tru, Dz.e_and, Dz.e_or, Dz.e_not, Dz.e_yes, Dz.e_andV, Dz.e_orV, Dz.e_notV, Dz.e_orT, Dz.e_andT, Dz.e_if, Dz.e_nil, Dz.e_cons, Dz.e_tup, Dz.e_lst, Dz.e_call, Dz.e_fn, Dz.e_chain, Dz.e_noP, Dz.e_part, Dz.e_sl, Dz.e_m1, Dz.e_m0, Dz.e_gv, Dz.e_gt, Dz.e_gc, Dz.e_gn, Dz.e_lc, Dz.e_w0, Dz.e_w1, Dz.e_list, Dz.e_tupI, Dz.e_strI, Dz.tru_bl, Dz.tru_int, Dz.tru_lst, Dz.tru_tup, Dz.tru_str, Dz.len_lst, Dz.len_tup, Dz.len_str, Dz.add_int', Dz.sub_int', Dz.lt_int', Dz.le_int', Dz.gt_int', Dz.ge_int', Dz.eq_int', Dz.ne_int', Dz.eq_str', Dz.ne_str', Dz.asBl_bl, Dz.asStr_str, Dz.asInt_int, Dz.asLst_lst, Dz.asTup_tup, Dz.add_str', Dz.add_lst', Dz.add_tup', Dz.mul_int', Dz.mul_str', Dz.mod_int'', Dz.div_int', Dz.ix_lst', Dz.ix_tup', Dz.ix_str', Dz.sl_lst', Dz.sl_tup', Dz.sl_str', Dz.neg_int', Dz.at0, Dz.at1, Dz.at2, Dz.at3, Dz.at4, Dz.at5, Dz.at6, Dz.at7, Dz.int_int', Dz.int_bl', Dz.tupF_lst, Dz.tupF_tup, Dz.lstF_lst, Dz.lstF_tup, Dz.is_bl', Dz.not_bl', Dz.take_eq, Dz.some_some, Dz.two_eq, List.length_cons, List.length_nil, List.map_cons, List.map_nil, List.append_nil, List.cons_append, List.nil_append, Nat.reduceAdd, Nat.reduceSub, Nat.reduceLeDiff, Nat.zero_add, Int.toNat_natCast, if_true, if_false, Bool.false_eq_true, Bool.not_true, Bool.not_false, true_and, and_true, ite_true, ite_false, Dz.e_fld, Dz.obj_f, Dz.e_meth, Dz.is_obj, Dz.e_make, Dz.e_own1, Dz.e_ownIn, Dz.is_c, Dz.e_star, Dz.sq_lst, Dz.sq_tup, Dz.isL_lst, Dz.e_zip2, Dz.e_enum, Dz.e_sortSet, Dz.own_own, Dz.e_sown, Dz.e_sapp, Dz.e_sput, Dz.e_sins, Dz.e_sext, Dz.e_sfrz, Dz.e_ixo, Dz.e_truo, Dz.slf_slf, Dz.e_sslf, Dz.e_mslf, Dz.e_runI2, Dz.max2, Dz.min2, Dz.e_not, Dz.e_isiT, Dz.isi_lst_lt, Dz.isi_tup_lt, List.getElem?_cons_zero, List.getElem?_cons_succ, isi_non_int, isi_non_bool, isi_non_str, isi_non_tuple, isi_non_list, isi_non_dict, isi_bl_int, isi_bl_bool, isi_bl_str, isi_bl_tuple, isi_bl_list, isi_bl_dict, isi_int_int, isi_int_bool, isi_int_str, isi_int_tuple, isi_int_list, isi_int_dict, isi_str_int, isi_str_bool, isi_str_str, isi_str_tuple, isi_str_list, isi_str_dict, isi_tup_int, isi_tup_bool, isi_tup_str, isi_tup_tuple, isi_tup_list, isi_tup_dict, isi_lst_int, isi_lst_bool, isi_lst_str, isi_lst_tuple, isi_lst_list, isi_lst_dict, isi_dic_int, isi_dic_bool, isi_dic_str, isi_dic_tuple, isi_dic_list, isi_dic_dict]
            simp [pr, sps]
          · rw [if_neg (by rw [decide_eq_false h3]; simp)]
            refine ⟨by decide, by rw [List.length_append, sps_len]; have := k.len; simp at this; exact Nat.lt_of_lt_of_le (by simp; omega : _ < 1000) (by decide), ?_⟩
            refine hN _ ⟨init ++ [l] ++ [p], R, .val (.int p.1), .val (.int p.2), ?_, rfl, k.push h2 fun q hq => ?_⟩
            · rw [sps_app, e1]; rfl
            · have hl2 := k.can
              rcases List.mem_append.mp hq with hq | hq
              · have := (List.pairwise_append.mp hl2.far).2.2 q hq l (List.mem_singleton.mpr rfl)
                have := hl2.ord l (List.mem_append_right _ (List.mem_singleton.mpr rfl))
                omega
              · rw [List.mem_singleton.mp hq]; omega
end K23

namespace K23
open PySem PySem.Spec PyProof.Rows L2 Dz DY
theorem init_spec (c : Cs) (a : Addr) (S : List (Int × Int)) (hS : Inr S) (hl : S.length < 64) (Q : List (Str × D) → Prop) (h : ∀ F, Canon F → Inr F → (∀ x, has F x = has S x) → F.length ≤ S.length → Q [("_spans", .tup (sps F))]) : m_Days___init__ c a [.lst (sps S)] Q := by
  unfold m_Days___init__
  simp -implicitDefEqProofs only [Dz.e_rng1, Dz.e_rngQ, Dz.e_seq, Dz.e_next, Dz.e_brk, Dz.e_cont, Dz.e_drop, Dz.e_ifS, Dz.e_asg, Dz.e_par, Dz.e_ret, Dz.e_retN, Dz.e_for, Dz.e_run1, Dz.e_run2, Dz.e_run3, Dz.e_run4, Dz.e_run5, Dz.e_run6, Dz.e_run7, Dz.e_run8, Dz.e_rep0, Dz.e_rep1, Dz.e_rep2, Dz.e_rep3, Dz.e_rep4, Dz.e_rep5, Dz.e_rep6, Dz.e_rep7, Dz.e_rep8, Dz.e_rep9, Dz.e_rep10, Dz.e_rep11, Dz.e_rep12, Dz.e_rep13, Dz.e_rep14, Dz.e_rep15, Dz.e_rep16, Dz.e_rep17, Dz.e_rep18, Dz.e_rep19, Dz.e_rep20, Dz.e_rep21, Dz.e_rep22, Dz.e_rep23, Dz.e_rep24, Dz.e_rep25, Dz.e_v0, Dz.e_s0, Dz.e_v1, Dz.e_s1, Dz.e_v2, Dz.e_s2, Dz.e_v3, Dz.e_s3, Dz.e_v4, Dz.e_s4, Dz.e_v5, Dz.e_s5, Dz.e_v6, Dz.e_s6, Dz.e_v7, Dz.e_s7, Dz.e_v8, Dz.e_s8, Dz.e_v9, Dz.e_s9, Dz.e_v10, Dz.e_s10, Dz.e_v11, Dz.e_s11, Dz.e_v12, Dz.e_s12, Dz.e_v13, Dz.e_s13, Dz.e_v14, Dz.e_s14, Dz.e_v15, Dz.e_s15, Dz.e_v16, Dz.e_s16, Dz.e_v17, Dz.e_s17, Dz.e_v18, Dz.e_s18, Dz.e_v19, Dz.e_s19, Dz.e_v20, Dz.e_s20, Dz.e_v21, Dz.e_s21, Dz.e_v22, Dz.e_s22, Dz.e_v23, Dz.e_s23, Dz.e_v24, Dz.e_s24, Dz.e_v25, Dz.e_s25, Dz.e_c, Dz.e_bin, Dz.e_un, Dz.e_test, Dz.e_tru, Dz.e_and, Dz.e_or, Dz.e_not, Dz.e_yes, Dz.e_andV, Dz.e_orV, Dz.e_notV, Dz.e_orT, Dz.e_andT, Dz.e_if, Dz.e_nil, Dz.e_cons, Dz.e_tup, Dz.e_lst, Dz.e_call, Dz.e_fn, Dz.e_chain, Dz.e_noP, Dz.e_part, Dz.e_sl, Dz.e_m1, Dz.e_m0, Dz.e_gv, Dz.e_gt, Dz.e_gc, Dz.e_gn, Dz.e_lc, Dz.e_w0, Dz.e_w1, Dz.e_list, Dz.e_tupI, Dz.e_strI, Dz.tru_bl, Dz.tru_int, Dz.tru_lst, Dz.tru_tup, Dz.tru_str, Dz.len_lst, Dz.len_tup, Dz.len_str, Dz.add_int', Dz.sub_int', Dz.lt_int', Dz.le_int', Dz.gt_int', Dz.ge_int', Dz.eq_int', Dz.ne_int', Dz.eq_str', Dz.ne_str', Dz.asBl_bl, Dz.asStr_str, Dz.asInt_int, Dz.asLst_lst, Dz.asTup_tup, Dz.add_str', Dz.add_lst', Dz.add_tup', Dz.mul_int', Dz.mul_str', Dz.mod_int'', Dz.div_int', Dz.ix_lst', Dz.ix_tup', Dz.ix_str', Dz.sl_lst', Dz.sl_tup', Dz.sl_str', Dz.neg_int', Dz.at0, Dz.at1, Dz.at2, Dz.at3, Dz.at4, Dz.at5, Dz.at6, Dz.at7, Dz.int_int', Dz.int_bl', Dz.tupF_lst, Dz.tupF_tup, Dz.lstF_lst, Dz.lstF_tup, Dz.is_bl', Dz.not_bl', Dz.take_eq, Dz.some_some, Dz.two_eq, List.length_cons, List.length_nil, List.map_cons, List.map_nil, List.append_nil, List.cons_append, List.nil_append, Nat.reduceAdd, Nat.reduceSub, Nat.reduceLeDiff, Nat.zero_add, Int.toNat_natCast, if_true, if_false, Bool.false_eq_true, Bool.not_true, Bool.not_false, true_and, and_true, ite_true, ite_false, Dz.e_fld, Dz.obj_f, Dz.e_meth, Dz.is_obj, Dz.e_make, Dz.e_own1, Dz.e_ownIn, Dz.is_c, Dz.e_star, Dz.sq_lst, Dz.sq_tup, Dz.isL_lst, Dz.e_zip2, Dz.e_enum, Dz.e_sortSet, Dz.own_own, Dz.e_sown, Dz.e_sapp, Dz.e_sput, Dz.e_sins, Dz.e_sext, Dz.e_sfrz, Dz.e_ixo, Dz.e_truo, Dz.slf_slf, Dz.e_sslf, Dz.e_mslf, Dz.e_runI2, Dz.max2, Dz.min2, Dz.e_not, Dz.e_isiT, Dz.isi_lst_lt, Dz.isi_tup_lt, List.getElem?_cons_zero, List.getElem?_cons_succ, isi_non_int, isi_non_bool, isi_non_str, isi_non_tuple, isi_non_list, isi_non_dict, isi_bl_int, isi_bl_bool, isi_bl_str, isi_bl_tuple, isi_bl_list, isi_bl_dict, isi_int_int, isi_int_bool, isi_int_str, isi_int_tuple, isi_int_list, isi_int_dict, isi_str_int, isi_str_bool, isi_str_str, isi_str_tuple, isi_str_list, isi_str_dict, isi_tup_int, isi_tup_bool, isi_tup_str, isi_tup_tuple, isi_tup_list, isi_tup_dict, isi_lst_int, isi_lst_bool, isi_lst_str, isi_lst_tuple, isi_lst_list, isi_lst_dict, isi_dic_int, isi_dic_bool, isi_dic_str, isi_dic_tuple, isi_dic_list, isi_dic_dict]
  refine spans_spec c S hS (by omega) _ ⟨by decide, check_spec c _ ?_⟩
  refine few_spec c S hS hl _ fun F h1 h2 h3 h4 => ?_
  exact ⟨by decide, h F h1 h2 h3 h4⟩
theorem look_s (F : List (Int × Int)) (P : D → Prop) : someD (List.lookup ("_spans" : Str) [(("_spans" : Str), D.tup (sps F))]) P = P (.tup (sps F)) := by
  have : List.lookup ("_spans" : Str) [(("_spans" : Str), D.tup (sps F))] = some (D.tup (sps F)) := by
    rw [List.lookup_cons]; simp
  rw [this]; rfl
def oD : Option Int → D
  | none => .non
  | some i => .int i
theorem early_spec (c : Cs) (F : List (Int × Int)) (Q : D → Prop) (h : Q (oD (F.head?.map (·.1)))) : m_Days_earliest c [dO c F] Q := by
  unfold m_Days_earliest dO
  simp -implicitDefEqProofs only [Dz.e_rng1, Dz.e_rngQ, Dz.e_seq, Dz.e_next, Dz.e_brk, Dz.e_cont, Dz.e_drop, Dz.e_ifS, Dz.e_asg, Dz.e_par, Dz.e_ret, Dz.e_retN, Dz.e_for, Dz.e_run1, Dz.e_run2, Dz.e_run3, Dz.e_run4, Dz.e_run5, Dz.e_run6, Dz.e_run7, Dz.e_run8, Dz.e_rep0, Dz.e_rep1, Dz.e_rep2, Dz.e_rep3, Dz.e_rep4, Dz.e_rep5, Dz.e_rep6, Dz.e_rep7, Dz.e_rep8, Dz.e_rep9, Dz.e_rep10, Dz.e_rep11, Dz.e_rep12, Dz.e_rep13, Dz.e_rep14, Dz.e_rep15, Dz.e_rep16, Dz.e_rep17, Dz.e_rep18, Dz.e_rep19, Dz.e_rep20, Dz.e_rep21, Dz.e_rep22, Dz.e_rep23, Dz.e_rep24, Dz.e_rep25, Dz.e_v0, Dz.e_s0, Dz.e_v1, Dz.e_s1, Dz.e_v2, Dz.e_s2, Dz.e_v3, Dz.e_s3, Dz.e_v4, Dz.e_s4, Dz.e_v5, Dz.e_s5, Dz.e_v6, Dz.e_s6, Dz.e_v7, Dz.e_s7, Dz.e_v8, Dz.e_s8, Dz.e_v9, Dz.e_s9, Dz.e_v10, Dz.e_s10, Dz.e_v11, Dz.e_s11, Dz.e_v12, Dz.e_s12, Dz.e_v13, Dz.e_s13, Dz.e_v14, Dz.e_s14, Dz.e_v15, Dz.e_s15, Dz.e_v16, Dz.e_s16, Dz.e_v17, Dz.e_s17, Dz.e_v18, Dz.e_s18, Dz.e_v19, Dz.e_s19, Dz.e_v20, Dz.e_s20, Dz.e_v21, Dz.e_s21, Dz.e_v22, Dz.e_s22, Dz.e_v23, Dz.e_s23, Dz.e_v24, Dz.e_s24, Dz.e_v25, Dz.e_s25, Dz.e_c, Dz.e_bin, Dz.e_un, Dz.e_test, Dz.e_tru, Dz.e_and, Dz.e_or, Dz.e_not, Dz.e_yes, Dz.e_andV, Dz.e_orV, Dz.e_notV, Dz.e_orT, Dz.e_andT, Dz.e_if, Dz.e_nil, Dz.e_cons, Dz.e_tup, Dz.e_lst, Dz.e_call, Dz.e_fn, Dz.e_chain, Dz.e_noP, Dz.e_part, Dz.e_sl, Dz.e_m1, Dz.e_m0, Dz.e_gv, Dz.e_gt, Dz.e_gc, Dz.e_gn, Dz.e_lc, Dz.e_w0, Dz.e_w1, Dz.e_list, Dz.e_tupI, Dz.e_strI, Dz.tru_bl, Dz.tru_int, Dz.tru_lst, Dz.tru_tup, Dz.tru_str, Dz.len_lst, Dz.len_tup, Dz.len_str, Dz.add_int', Dz.sub_int', Dz.lt_int', Dz.le_int', Dz.gt_int', Dz.ge_int', Dz.eq_int', Dz.ne_int', Dz.eq_str', Dz.ne_str', Dz.asBl_bl, Dz.asStr_str, Dz.asInt_int, Dz.asLst_lst, Dz.asTup_tup, Dz.add_str', Dz.add_lst', Dz.add_tup', Dz.mul_int', Dz.mul_str', Dz.mod_int'', Dz.div_int', Dz.ix_lst', Dz.ix_tup', Dz.ix_str', Dz.sl_lst', Dz.sl_tup', Dz.sl_str', Dz.neg_int', Dz.at0, Dz.at1, Dz.at2, Dz.at3, Dz.at4, Dz.at5, Dz.at6, Dz.at7, Dz.int_int', Dz.int_bl', Dz.tupF_lst, Dz.tupF_tup, Dz.lstF_lst, Dz.lstF_tup, Dz.is_bl', Dz.not_bl', Dz.take_eq, Dz.some_some, Dz.two_eq, List.length_cons, List.length_nil, List.map_cons, List.map_nil, List.append_nil, List.cons_append, List.nil_append, Nat.reduceAdd, Nat.reduceSub, Nat.reduceLeDiff, Nat.zero_add, Int.toNat_natCast, if_true, if_false, Bool.false_eq_true, Bool.not_true, Bool.not_false, true_and, and_true, ite_true, ite_false, Dz.e_fld, Dz.obj_f, Dz.e_meth, Dz.is_obj, Dz.e_make, Dz.e_own1, Dz.e_ownIn, Dz.is_c, Dz.e_star, Dz.sq_lst, Dz.sq_tup, Dz.isL_lst, Dz.e_zip2, Dz.e_enum, Dz.e_sortSet, Dz.own_own, Dz.e_sown, Dz.e_sapp, Dz.e_sput, Dz.e_sins, Dz.e_sext, Dz.e_sfrz, Dz.e_ixo, Dz.e_truo, Dz.slf_slf, Dz.e_sslf, Dz.e_mslf, Dz.e_runI2, Dz.max2, Dz.min2, Dz.e_not, Dz.e_isiT, Dz.isi_lst_lt, Dz.isi_tup_lt, List.getElem?_cons_zero, List.getElem?_cons_succ, isi_non_int, isi_non_bool, isi_non_str, isi_non_tuple, isi_non_list, isi_non_dict, isi_bl_int, isi_bl_bool, isi_bl_str, isi_bl_tuple, isi_bl_list, isi_bl_dict, isi_int_int, isi_int_bool, isi_int_str, isi_int_tuple, isi_int_list, isi_int_dict, isi_str_int, isi_str_bool, isi_str_str, isi_str_tuple, isi_str_list, isi_str_dict, isi_tup_int, isi_tup_bool, isi_tup_str, isi_tup_tuple, isi_tup_list, isi_tup_dict, isi_lst_int, isi_lst_bool, isi_lst_str, isi_lst_tuple, isi_lst_list, isi_lst_dict, isi_dic_int, isi_dic_bool, isi_dic_str, isi_dic_tuple, isi_dic_list, isi_dic_dict, look_s]
  cases F with
  | nil =>
    rw [if_neg (by simp [sps])]
    exact h
  | cons p F =>
    rw [if_pos (by simp [sps]), sps_cons]
    unfold pr
    simp -implicitDefEqProofs only [Dz.e_rng1, Dz.e_rngQ, Dz.e_seq, Dz.e_next, Dz.e_brk, Dz.e_cont, Dz.e_drop, Dz.e_ifS, Dz.e_asg, Dz.e_par, Dz.e_ret, Dz.e_retN, Dz.e_for, Dz.e_run1, Dz.e_run2, Dz.e_run3, Dz.e_run4, Dz.e_run5, Dz.e_run6, Dz.e_run7, Dz.e_run8, Dz.e_rep0, Dz.e_rep1, Dz.e_rep2, Dz.e_rep3, Dz.e_rep4, Dz.e_rep5, Dz.e_rep6, Dz.e_rep7, Dz.e_rep8, Dz.e_rep9, Dz.e_rep10, Dz.e_rep11, Dz.e_rep12, Dz.e_rep13, Dz.e_rep14, Dz.e_rep15, Dz.e_rep16, Dz.e_rep17, Dz.e_rep18, Dz.e_rep19, Dz.e_rep20, Dz.e_rep21, Dz.e_rep22, Dz.e_rep23, Dz.e_rep24, Dz.e_rep25, Dz.e_v0, Dz.e_s0, Dz.e_v1, Dz.e_s1, Dz.e_v2, Dz.e_s2, Dz.e_v3, Dz.e_s3, Dz.e_v4, Dz.e_s4, Dz.e_v5, Dz.e_s5, Dz.e_v6, Dz.e_s6, Dz.e_v7, Dz.e_s7, Dz.e_v8, Dz.e_s8, Dz.e_v9, Dz.e_s9, Dz.e_v10, Dz.e_s10, Dz.e_v11, Dz.e_s11, Dz.e_v12, Dz.e_s12, Dz.e_v13, Dz.e_s13, Dz.e_v14, Dz.e_s14, Dz.e_v15, Dz.e_s15, Dz.e_v16, Dz.e_s16, Dz.e_v17, Dz.e_s17, Dz.e_v18, Dz.e_s18, Dz.e_v19, Dz.e_s19, Dz.e_v20, Dz.e_s20, Dz.e_v21, Dz.e_s21, Dz.e_v22, Dz.e_s22, Dz.e_v23, Dz.e_s23, Dz.e_v24, Dz.e_s24, Dz.e_v25, Dz.e_s25, Dz.e_c, Dz.e_bin, Dz.e_un, Dz.e_test, Dz.e_tru, Dz.e_and, Dz.e_or, Dz.e_not, Dz.e_yes, Dz.e_andV, Dz.e_orV, Dz.e_notV, Dz.e_orT, Dz.e_andT, Dz.e_if, Dz.e_nil, Dz.e_cons, Dz.e_tup, Dz.e_lst, Dz.e_call, Dz.e_fn, Dz.e_chain, Dz.e_noP, Dz.e_part, Dz.e_sl, Dz.e_m1, Dz.e_m0, Dz.e_gv, Dz.e_gt, Dz.e_gc, Dz.e_gn, Dz.e_lc, Dz.e_w0, Dz.e_w1, Dz.e_list, Dz.e_tupI, Dz.e_strI, Dz.tru_bl, Dz.tru_int, Dz.tru_lst, Dz.tru_tup, Dz.tru_str, Dz.len_lst, Dz.len_tup, Dz.len_str, Dz.add_int', Dz.sub_int', Dz.lt_int', Dz.le_int', Dz.gt_int', Dz.ge_int', Dz.eq_int', Dz.ne_int', Dz.eq_str', Dz.ne_str', Dz.asBl_bl, Dz.asStr_str, Dz.asInt_int, Dz.asLst_lst, Dz.asTup_tup, Dz.add_str', Dz.add_lst', Dz.add_tup', Dz.mul_int', Dz.mul_str', Dz.mod_int'', Dz.div_int', Dz.ix_lst', Dz.ix_tup', Dz.ix_str', Dz.sl_lst', Dz.sl_tup', Dz.sl_str', Dz.neg_int', Dz.at0, Dz.at1, Dz.at2, Dz.at3, Dz.at4, Dz.at5, Dz.at6, Dz.at7, Dz.int_int', Dz.int_bl', Dz.tupF_lst, Dz.tupF_tup, Dz.lstF_lst, Dz.lstF_tup, Dz.is_bl', Dz.not_bl', Dz.take_eq, Dz.some_some, Dz.two_eq, List.length_cons, List.length_nil, List.map_cons, List.map_nil, List.append_nil, List.cons_append, List.nil_append, Nat.reduceAdd, Nat.reduceSub, Nat.reduceLeDiff, Nat.zero_add, Int.toNat_natCast, if_true, if_false, Bool.false_eq_true, Bool.not_true, Bool.not_false, true_and, and_true, ite_true, ite_false, Dz.e_fld, Dz.obj_f, Dz.e_meth, Dz.is_obj, Dz.e_make, Dz.e_own1, Dz.e_ownIn, Dz.is_c, Dz.e_star, Dz.sq_lst, Dz.sq_tup, Dz.isL_lst, Dz.e_zip2, Dz.e_enum, Dz.e_sortSet, Dz.own_own, Dz.e_sown, Dz.e_sapp, Dz.e_sput, Dz.e_sins, Dz.e_sext, Dz.e_sfrz, Dz.e_ixo, Dz.e_truo, Dz.slf_slf, Dz.e_sslf, Dz.e_mslf, Dz.e_runI2, Dz.max2, Dz.min2, Dz.e_not, Dz.e_isiT, Dz.isi_lst_lt, Dz.isi_tup_lt, List.getElem?_cons_zero, List.getElem?_cons_succ, isi_non_int, isi_non_bool, isi_non_str, isi_non_tuple, isi_non_list, isi_non_dict, isi_bl_int, isi_bl_bool, isi_bl_str, isi_bl_tuple, isi_bl_list, isi_bl_dict, isi_int_int, isi_int_bool, isi_int_str, isi_int_tuple, isi_int_list, isi_int_dict, isi_str_int, isi_str_bool, isi_str_str, isi_str_tuple, isi_str_list, isi_str_dict, isi_tup_int, isi_tup_bool, isi_tup_str, isi_tup_tuple, isi_tup_list, isi_tup_dict, isi_lst_int, isi_lst_bool, isi_lst_str, isi_lst_tuple, isi_lst_list, isi_lst_dict, isi_dic_int, isi_dic_bool, isi_dic_str, isi_dic_tuple, isi_dic_list, isi_dic_dict]
    exact h
theorem bey_spec (c : Cs) (F : List (Int × Int)) (d : Int) (Q : D → Prop) (h : Q (oD (bey F d))) : m_Days_beyond c [dO c F, .int d] Q := by
  unfold m_Days_beyond dO
  simp -implicitDefEqProofs only [Dz.e_rng1, Dz.e_rngQ, Dz.e_seq, Dz.e_next, Dz.e_brk, Dz.e_cont, Dz.e_drop, Dz.e_ifS, Dz.e_asg, Dz.e_par, Dz.e_ret, Dz.e_retN, Dz.e_for, Dz.e_run1, Dz.e_run2, Dz.e_run3, Dz.e_run4, Dz.e_run5, Dz.e_run6, Dz.e_run7, Dz.e_run8, Dz.e_rep0, Dz.e_rep1, Dz.e_rep2, Dz.e_rep3, Dz.e_rep4, Dz.e_rep5, Dz.e_rep6, Dz.e_rep7, Dz.e_rep8, Dz.e_rep9, Dz.e_rep10, Dz.e_rep11, Dz.e_rep12, Dz.e_rep13, Dz.e_rep14, Dz.e_rep15, Dz.e_rep16, Dz.e_rep17, Dz.e_rep18, Dz.e_rep19, Dz.e_rep20, Dz.e_rep21, Dz.e_rep22, Dz.e_rep23, Dz.e_rep24, Dz.e_rep25, Dz.e_v0, Dz.e_s0, Dz.e_v1, Dz.e_s1, Dz.e_v2, Dz.e_s2, Dz.e_v3, Dz.e_s3, Dz.e_v4, Dz.e_s4, Dz.e_v5, Dz.e_s5, Dz.e_v6, Dz.e_s6, Dz.e_v7, Dz.e_s7, Dz.e_v8, Dz.e_s8, Dz.e_v9, Dz.e_s9, Dz.e_v10, Dz.e_s10, Dz.e_v11, Dz.e_s11, Dz.e_v12, Dz.e_s12, Dz.e_v13, Dz.e_s13, Dz.e_v14, Dz.e_s14, Dz.e_v15, Dz.e_s15, Dz.e_v16, Dz.e_s16, Dz.e_v17, Dz.e_s17, Dz.e_v18, Dz.e_s18, Dz.e_v19, Dz.e_s19, Dz.e_v20, Dz.e_s20, Dz.e_v21, Dz.e_s21, Dz.e_v22, Dz.e_s22, Dz.e_v23, Dz.e_s23, Dz.e_v24, Dz.e_s24, Dz.e_v25, Dz.e_s25, Dz.e_c, Dz.e_bin, Dz.e_un, Dz.e_test, Dz.e_tru, Dz.e_and, Dz.e_or, Dz.e_not, Dz.e_yes, Dz.e_andV, Dz.e_orV, Dz.e_notV, Dz.e_orT, Dz.e_andT, Dz.e_if, Dz.e_nil, Dz.e_cons, Dz.e_tup, Dz.e_lst, Dz.e_call, Dz.e_fn, Dz.e_chain, Dz.e_noP, Dz.e_part, Dz.e_sl, Dz.e_m1, Dz.e_m0, Dz.e_gv, Dz.e_gt, Dz.e_gc, Dz.e_gn, Dz.e_lc, Dz.e_w0, Dz.e_w1, Dz.e_list, Dz.e_tupI, Dz.e_strI, Dz.tru_bl, Dz.tru_int, Dz.tru_lst, Dz.tru_tup, Dz.tru_str, Dz.len_lst, Dz.len_tup, Dz.len_str, Dz.add_int', Dz.sub_int', Dz.lt_int', Dz.le_int', Dz.gt_int', Dz.ge_int', Dz.eq_int', Dz.ne_int', Dz.eq_str', Dz.ne_str', Dz.asBl_bl, Dz.asStr_str, Dz.asInt_int, Dz.asLst_lst, Dz.asTup_tup, Dz.add_str', Dz.add_lst', Dz.add_tup', Dz.mul_int', Dz.mul_str', Dz.mod_int'', Dz.div_int', Dz.ix_lst', Dz.ix_tup', Dz.ix_str', Dz.sl_lst', Dz.sl_tup', Dz.sl_str', Dz.neg_int', Dz.at0, Dz.at1, Dz.at2, Dz.at3, Dz.at4, Dz.at5, Dz.at6, Dz.at7, Dz.int_int', Dz.int_bl', Dz.tupF_lst, Dz.tupF_tup, Dz.lstF_lst, Dz.lstF_tup, Dz.is_bl', Dz.not_bl', Dz.take_eq, Dz.some_some, Dz.two_eq, List.length_cons, List.length_nil, List.map_cons, List.map_nil, List.append_nil, List.cons_append, List.nil_append, Nat.reduceAdd, Nat.reduceSub, Nat.reduceLeDiff, Nat.zero_add, Int.toNat_natCast, if_true, if_false, Bool.false_eq_true, Bool.not_true, Bool.not_false, true_and, and_true, ite_true, ite_false, Dz.e_fld, Dz.obj_f, Dz.e_meth, Dz.is_obj, Dz.e_make, Dz.e_own1, Dz.e_ownIn, Dz.is_c, Dz.e_star, Dz.sq_lst, Dz.sq_tup, Dz.isL_lst, Dz.e_zip2, Dz.e_enum, Dz.e_sortSet, Dz.own_own, Dz.e_sown, Dz.e_sapp, Dz.e_sput, Dz.e_sins, Dz.e_sext, Dz.e_sfrz, Dz.e_ixo, Dz.e_truo, Dz.slf_slf, Dz.e_sslf, Dz.e_mslf, Dz.e_runI2, Dz.max2, Dz.min2, Dz.e_not, Dz.e_isiT, Dz.isi_lst_lt, Dz.isi_tup_lt, List.getElem?_cons_zero, List.getElem?_cons_succ, isi_non_int, isi_non_bool, isi_non_str, isi_non_tuple, isi_non_list, isi_non_dict, isi_bl_int, isi_bl_bool, isi_bl_str, isi_bl_tuple, isi_bl_list, isi_bl_dict, isi_int_int, isi_int_bool, isi_int_str, isi_int_tuple, isi_int_list, isi_int_dict, isi_str_int, isi_str_bool, isi_str_str, isi_str_tuple, isi_str_list, isi_str_dict, isi_tup_int, isi_tup_bool, isi_tup_str, isi_tup_tuple, isi_tup_list, isi_tup_dict, isi_lst_int, isi_lst_bool, isi_lst_str, isi_lst_tuple, isi_lst_list, isi_lst_dict, isi_dic_int, isi_dic_bool, isi_dic_str, isi_dic_tuple, isi_dic_list, isi_dic_dict, look_s]
  refine for_inv (fun rest ρ => ∃ R x2 x3, ρ = [Slot.val (.obj c.Days [(("_spans" : Str), .tup (sps F))]), .val (.int d), x2, x3] ∧ rest = sps R ∧ bey F d = bey R d) _ _ ⟨F, .no, .no, rfl, rfl, rfl⟩ (fun ρ hρ => ?_) (fun e ds ρ N hI hN => ?_)
  · obtain ⟨R, x2, x3, rfl, e, k⟩ := hρ
    have : R = [] := by cases R with
      | nil => rfl
      | cons a R => cases e
    subst this
    rw [k] at h
    exact h
  · obtain ⟨R, x2, x3, rfl, e, k⟩ := hI
    match R, e, k with
    | p :: R, e, k =>
      rw [sps_cons] at e
      cases e
      unfold pr
      simp -implicitDefEqProofs only [Dz.e_rng1, Dz.e_rngQ, Dz.e_seq, Dz.e_next, Dz.e_brk, Dz.e_cont, Dz.e_drop, Dz.e_ifS, Dz.e_asg, Dz.e_par, Dz.e_ret, Dz.e_retN, Dz.e_for, Dz.e_run1, Dz.e_run2, Dz.e_run3, Dz.e_run4, Dz.e_run5, Dz.e_run6, Dz.e_run7, Dz.e_run8, Dz.e_rep0, Dz.e_rep1, Dz.e_rep2, Dz.e_rep3, Dz.e_rep4, Dz.e_rep5, Dz.e_rep6, Dz.e_rep7, Dz.e_rep8, Dz.e_rep9, Dz.e_rep10, Dz.e_rep11, Dz.e_rep12, Dz.e_rep13, Dz.e_rep14, Dz.e_rep15, Dz.e_rep16, Dz.e_rep17, Dz.e_rep18, Dz.e_rep19, Dz.e_rep20, Dz.e_rep21, Dz.e_rep22, Dz.e_rep23, Dz.e_rep24, Dz.e_rep25, Dz.e_v0, Dz.e_s0, Dz.e_v1, Dz.e_s1, Dz.e_v2, Dz.e_s2, Dz.e_v3, Dz.e_s3, Dz.e_v4, Dz.e_s4, Dz.e_v5, Dz.e_s5, Dz.e_v6, Dz.e_s6, Dz.e_v7, Dz.e_s7, Dz.e_v8, Dz.e_s8, Dz.e_v9, Dz.e_s9, Dz.e_v10, Dz.e_s10, Dz.e_v11, Dz.e_s11, Dz.e_v12, Dz.e_s12, Dz.e_v13, Dz.e_s13, Dz.e_v14, Dz.e_s14, Dz.e_v15, Dz.e_s15, Dz.e_v16, Dz.e_s16, Dz.e_v17, Dz.e_s17, Dz.e_v18, Dz.e_s18, Dz.e_v19, Dz.e_s19, Dz.e_v20, Dz.e_s20, Dz.e_v21, Dz.e_s21, Dz.e_v22, Dz.e_s22, Dz.e_v23, Dz.e_s23, Dz.e_v24, Dz.e_s24, Dz.e_v25, Dz.e_s25, Dz.e_c, Dz.e_bin, Dz.e_un, Dz.e_test, Dz.e_tru, Dz.e_and, Dz.e_or, Dz.e_not, Dz.e_yes, Dz.e_andV, Dz.e_orV, Dz.e_notV, Dz.e_orT, Dz.e_andT, Dz.e_if, Dz.e_nil, Dz.e_cons, Dz.e_tup, Dz.e_lst, Dz.e_call, Dz.e_fn, Dz.e_chain, Dz.e_noP, Dz.e_part, Dz.e_sl, Dz.e_m1, Dz.e_m0, Dz.e_gv, Dz.e_gt, Dz.e_gc, Dz.e_gn, Dz.e_lc, Dz.e_w0, Dz.e_w1, Dz.e_list, Dz.e_tupI, Dz.e_strI, Dz.tru_bl, Dz.tru_int, Dz.tru_lst, Dz.tru_tup, Dz.tru_str, Dz.len_lst, Dz.len_tup, Dz.len_str, Dz.add_int', Dz.sub_int', Dz.lt_int', Dz.le_int', Dz.gt_int', Dz.ge_int', Dz.eq_int', Dz.ne_int', Dz.eq_str', Dz.ne_str', Dz.asBl_bl, Dz.asStr_str, Dz.asInt_int, Dz.asLst_lst, Dz.asTup_tup, Dz.add_str', Dz.add_lst', Dz.add_tup', Dz.mul_int', Dz.mul_str', Dz.mod_int'', Dz.div_int', Dz.ix_lst', Dz.ix_tup', Dz.ix_str', Dz.sl_lst', Dz.sl_tup', Dz.sl_str', Dz.neg_int', Dz.at0, Dz.at1, Dz.at2, Dz.at3, Dz.at4, Dz.at5, Dz.at6, Dz.at7, Dz.int_int', Dz.int_bl', Dz.tupF_lst, Dz.tupF_tup, Dz.lstF_lst, Dz.lstF_tup, Dz.is_bl', Dz.not_bl', Dz.take_eq, Dz.some_some, Dz.two_eq, List.length_cons, List.length_nil, List.map_cons, List.map_nil, List.append_nil, List.cons_append, List.nil_append, Nat.reduceAdd, Nat.reduceSub, Nat.reduceLeDiff, Nat.zero_add, Int.toNat_natCast, if_true, if_false, Bool.false_eq_true, Bool.not_true, Bool.not_false, true_and, and_true, ite_true, ite_false, Dz.e_fld, Dz.obj_f, Dz.e_meth, Dz.is_obj, Dz.e_make, Dz.e_own1, Dz.e_ownIn, Dz.is_c, Dz.e_star, Dz.sq_lst, Dz.sq_tup, Dz.isL_lst, Dz.e_zip2, Dz.e_enum, Dz.e_sortSet, Dz.own_own, Dz.e_sown, Dz.e_sapp, Dz.e_sput, Dz.e_sins, Dz.e_sext, Dz.e_sfrz, Dz.e_ixo, Dz.e_truo, Dz.slf_slf, Dz.e_sslf, Dz.e_mslf, Dz.e_runI2, Dz.max2, Dz.min2, Dz.e_not, Dz.e_isiT, Dz.isi_lst_lt, Dz.isi_tup_lt, List.getElem?_cons_zero, List.getElem?_cons_succ, isi_non_int, isi_non_bool, isi_non_str, isi_non_tuple, isi_non_list, isi_non_dict, isi_bl_int, isi_bl_bool, isi_bl_str, isi_bl_tuple, isi_bl_list, isi_bl_dict, isi_int_int, isi_int_bool, isi_int_str, isi_int_tuple, isi_int_list, isi_int_dict, isi_str_int, isi_str_bool, isi_str_str, isi_str_tuple, isi_str_list, isi_str_dict, isi_tup_int, isi_tup_bool, isi_tup_str, isi_tup_tuple, isi_tup_list, isi_tup_dict, isi_lst_int, isi_lst_bool, isi_lst_str, isi_lst_tuple, isi_lst_list, isi_lst_dict, isi_dic_int, isi_dic_bool, isi_dic_str, isi_dic_tuple, isi_dic_list, isi_dic_dict]
      have kb : bey (p :: R) d = if d < p.2 then some (if d + 1 > p.1 then d + 1 else p.1) else bey R d := rfl
      rw [kb] at k
      by_cases h1 : d < p.2
      · rw [if_pos (decide_eq_true h1)]
        rw [if_pos h1] at k
        rw [k] at h
        exact h
      · rw [if_neg (by rw [decide_eq_false h1]; simp)]
        rw [if_neg h1] at k
        exact hN _ ⟨R, _, _, rfl, rfl, k⟩
theorem filt_id {α : Type} (l : List α) : l.filter (fun _ => true) = l := by
  induction l with
  | nil => rfl
  | cons a l ih => rw [List.filter_cons_of_pos rfl, ih]
theorem in_spec (c : Cs) (F : List (Int × Int)) (hl : F.length ≤ 1000) (d : Int) (Q : D → Prop) (h : Q (.bl (has F d))) : m_Days___contains__ c [dO c F, .int d] Q := by
  unfold m_Days___contains__ dO
  simp -implicitDefEqProofs only [Dz.e_rng1, Dz.e_rngQ, Dz.e_seq, Dz.e_next, Dz.e_brk, Dz.e_cont, Dz.e_drop, Dz.e_ifS, Dz.e_asg, Dz.e_par, Dz.e_ret, Dz.e_retN, Dz.e_for, Dz.e_run1, Dz.e_run2, Dz.e_run3, Dz.e_run4, Dz.e_run5, Dz.e_run6, Dz.e_run7, Dz.e_run8, Dz.e_rep0, Dz.e_rep1, Dz.e_rep2, Dz.e_rep3, Dz.e_rep4, Dz.e_rep5, Dz.e_rep6, Dz.e_rep7, Dz.e_rep8, Dz.e_rep9, Dz.e_rep10, Dz.e_rep11, Dz.e_rep12, Dz.e_rep13, Dz.e_rep14, Dz.e_rep15, Dz.e_rep16, Dz.e_rep17, Dz.e_rep18, Dz.e_rep19, Dz.e_rep20, Dz.e_rep21, Dz.e_rep22, Dz.e_rep23, Dz.e_rep24, Dz.e_rep25, Dz.e_v0, Dz.e_s0, Dz.e_v1, Dz.e_s1, Dz.e_v2, Dz.e_s2, Dz.e_v3, Dz.e_s3, Dz.e_v4, Dz.e_s4, Dz.e_v5, Dz.e_s5, Dz.e_v6, Dz.e_s6, Dz.e_v7, Dz.e_s7, Dz.e_v8, Dz.e_s8, Dz.e_v9, Dz.e_s9, Dz.e_v10, Dz.e_s10, Dz.e_v11, Dz.e_s11, Dz.e_v12, Dz.e_s12, Dz.e_v13, Dz.e_s13, Dz.e_v14, Dz.e_s14, Dz.e_v15, Dz.e_s15, Dz.e_v16, Dz.e_s16, Dz.e_v17, Dz.e_s17, Dz.e_v18, Dz.e_s18, Dz.e_v19, Dz.e_s19, Dz.e_v20, Dz.e_s20, Dz.e_v21, Dz.e_s21, Dz.e_v22, Dz.e_s22, Dz.e_v23, Dz.e_s23, Dz.e_v24, Dz.e_s24, Dz.e_v25, Dz.e_s25, Dz.e_c, Dz.e_bin, Dz.e_un, Dz.e_test, Dz.e_tru, Dz.e_and, Dz.e_or, Dz.e_not, Dz.e_yes, Dz.e_andV, Dz.e_orV, Dz.e_notV, Dz.e_orT, Dz.e_andT, Dz.e_if, Dz.e_nil, Dz.e_cons, Dz.e_tup, Dz.e_lst, Dz.e_call, Dz.e_fn, Dz.e_chain, Dz.e_noP, Dz.e_part, Dz.e_sl, Dz.e_m1, Dz.e_m0, Dz.e_gv, Dz.e_gt, Dz.e_gc, Dz.e_gn, Dz.e_lc, Dz.e_w0, Dz.e_w1, Dz.e_list, Dz.e_tupI, Dz.e_strI, Dz.tru_bl, Dz.tru_int, Dz.tru_lst, Dz.tru_tup, Dz.tru_str, Dz.len_lst, Dz.len_tup, Dz.len_str, Dz.add_int', Dz.sub_int', Dz.lt_int', Dz.le_int', Dz.gt_int', Dz.ge_int', Dz.eq_int', Dz.ne_int', Dz.eq_str', Dz.ne_str', Dz.asBl_bl, Dz.asStr_str, Dz.asInt_int, Dz.asLst_lst, Dz.asTup_tup, Dz.add_str', Dz.add_lst', Dz.add_tup', Dz.mul_int', Dz.mul_str', Dz.mod_int'', Dz.div_int', Dz.ix_lst', Dz.ix_tup', Dz.ix_str', Dz.sl_lst', Dz.sl_tup', Dz.sl_str', Dz.neg_int', Dz.at0, Dz.at1, Dz.at2, Dz.at3, Dz.at4, Dz.at5, Dz.at6, Dz.at7, Dz.int_int', Dz.int_bl', Dz.tupF_lst, Dz.tupF_tup, Dz.lstF_lst, Dz.lstF_tup, Dz.is_bl', Dz.not_bl', Dz.take_eq, Dz.some_some, Dz.two_eq, List.length_cons, List.length_nil, List.map_cons, List.map_nil, List.append_nil, List.cons_append, List.nil_append, Nat.reduceAdd, Nat.reduceSub, Nat.reduceLeDiff, Nat.zero_add, Int.toNat_natCast, if_true, if_false, Bool.false_eq_true, Bool.not_true, Bool.not_false, true_and, and_true, ite_true, ite_false, Dz.e_fld, Dz.obj_f, Dz.e_meth, Dz.is_obj, Dz.e_make, Dz.e_own1, Dz.e_ownIn, Dz.is_c, Dz.e_star, Dz.sq_lst, Dz.sq_tup, Dz.isL_lst, Dz.e_zip2, Dz.e_enum, Dz.e_sortSet, Dz.own_own, Dz.e_sown, Dz.e_sapp, Dz.e_sput, Dz.e_sins, Dz.e_sext, Dz.e_sfrz, Dz.e_ixo, Dz.e_truo, Dz.slf_slf, Dz.e_sslf, Dz.e_mslf, Dz.e_runI2, Dz.max2, Dz.min2, Dz.e_not, Dz.e_isiT, Dz.isi_lst_lt, Dz.isi_tup_lt, List.getElem?_cons_zero, List.getElem?_cons_succ, isi_non_int, isi_non_bool, isi_non_str, isi_non_tuple, isi_non_list, isi_non_dict, isi_bl_int, isi_bl_bool, isi_bl_str, isi_bl_tuple, isi_bl_list, isi_bl_dict, isi_int_int, isi_int_bool, isi_int_str, isi_int_tuple, isi_int_list, isi_int_dict, isi_str_int, isi_str_bool, isi_str_str, isi_str_tuple, isi_str_list, isi_str_dict, isi_tup_int, isi_tup_bool, isi_tup_str, isi_tup_tuple, isi_tup_list, isi_tup_dict, isi_lst_int, isi_lst_bool, isi_lst_str, isi_lst_tuple, isi_lst_list, isi_lst_dict, isi_dic_int, isi_dic_bool, isi_dic_str, isi_dic_tuple, isi_dic_list, isi_dic_dict, look_s]
  rw [sps_len]
  refine ⟨size_le (by omega), ?_⟩
  unfold sps
  refine comp_genL _ (fun p => D.bl (decide (p.1 ≤ d) && decide (d ≤ p.2))) (fun _ => true) _ _ (fun p hp Q1 Q0 q => ?_) ?_
  · unfold pr
    simp -implicitDefEqProofs only [Dz.e_rng1, Dz.e_rngQ, Dz.e_seq, Dz.e_next, Dz.e_brk, Dz.e_cont, Dz.e_drop, Dz.e_ifS, Dz.e_asg, Dz.e_par, Dz.e_ret, Dz.e_retN, Dz.e_for, Dz.e_run1, Dz.e_run2, Dz.e_run3, Dz.e_run4, Dz.e_run5, Dz.e_run6, Dz.e_run7, Dz.e_run8, Dz.e_rep0, Dz.e_rep1, Dz.e_rep2, Dz.e_rep3, Dz.e_rep4, Dz.e_rep5, Dz.e_rep6, Dz.e_rep7, Dz.e_rep8, Dz.e_rep9, Dz.e_rep10, Dz.e_rep11, Dz.e_rep12, Dz.e_rep13, Dz.e_rep14, Dz.e_rep15, Dz.e_rep16, Dz.e_rep17, Dz.e_rep18, Dz.e_rep19, Dz.e_rep20, Dz.e_rep21, Dz.e_rep22, Dz.e_rep23, Dz.e_rep24, Dz.e_rep25, Dz.e_v0, Dz.e_s0, Dz.e_v1, Dz.e_s1, Dz.e_v2, Dz.e_s2, Dz.e_v3, Dz.e_s3, Dz.e_v4, Dz.e_s4, Dz.e_v5, Dz.e_s5, Dz.e_v6, Dz.e_s6, Dz.e_v7, Dz.e_s7, Dz.e_v8, Dz.e_s8, Dz.e_v9, Dz.e_s9, Dz.e_v10, Dz.e_s10, Dz.e_v11, Dz.e_s11, Dz.e_v12, Dz.e_s12, Dz.e_v13, Dz.e_s13, Dz.e_v14, Dz.e_s14, Dz.e_v15, Dz.e_s15, Dz.e_v16, Dz.e_s16, Dz.e_v17, Dz.e_s17, Dz.e_v18, Dz.e_s18, Dz.e_v19, Dz.e_s19, Dz.e_v20, Dz.e_s20, Dz.e_v21, Dz.e_s21, Dz.e_v22, Dz.e_s22, Dz.e_v23, Dz.e_s23, Dz.e_v24, Dz.e_s24, Dz.e_v25, Dz.e_s25, Dz.e_c, Dz.e_bin, Dz.e_un, Dz.e_test, Dz.e_tru, Dz.e_and, Dz.e_or, Dz.e_not, Dz.e_yes, Dz.e_andV, Dz.e_orV, Dz.e_notV, Dz.e_orT, Dz.e_andT, Dz.e_if, Dz.e_nil, Dz.e_cons, Dz.e_tup, Dz.e_lst, Dz.e_call, Dz.e_fn, Dz.e_chain, Dz.e_noP, Dz.e_part, Dz.e_sl, Dz.e_m1, Dz.e_m0, Dz.e_gv, Dz.e_gt, Dz.e_gc, Dz.e_gn, Dz.e_lc, Dz.e_w0, Dz.e_w1, Dz.e_list, Dz.e_tupI, Dz.e_strI, Dz.tru_bl, Dz.tru_int, Dz.tru_lst, Dz.tru_tup, Dz.tru_str, Dz.len_lst, Dz.len_tup, Dz.len_str, Dz.add_int', Dz.sub_int', Dz.lt_int', Dz.le_int', Dz.gt_int', Dz.ge_int', Dz.eq_int', Dz.ne_int', Dz.eq_str', Dz.ne_str', Dz.asBl_bl, Dz.asStr_str, Dz.asInt_int, Dz.asLst_lst, Dz.asTup_tup, Dz.add_str', Dz.add_lst', Dz.add_tup', Dz.mul_int', Dz.mul_str', Dz.mod_int'', Dz.div_int', Dz.ix_lst', Dz.ix_tup', Dz.ix_str', Dz.sl_lst', Dz.sl_tup', Dz.sl_str', Dz.neg_int', Dz.at0, Dz.at1, Dz.at2, Dz.at3, Dz.at4, Dz.at5, Dz.at6, Dz.at7, Dz.int_int', Dz.int_bl', Dz.tupF_lst, Dz.tupF_tup, Dz.lstF_lst, Dz.lstF_tup, Dz.is_bl', Dz.not_bl', Dz.take_eq, Dz.some_some, Dz.two_eq, List.length_cons, List.length_nil, List.map_cons, List.map_nil, List.append_nil, List.cons_append, List.nil_append, Nat.reduceAdd, Nat.reduceSub, Nat.reduceLeDiff, Nat.zero_add, Int.toNat_natCast, if_true, if_false, Bool.false_eq_true, Bool.not_true, Bool.not_false, true_and, and_true, ite_true, ite_false, Dz.e_fld, Dz.obj_f, Dz.e_meth, Dz.is_obj, Dz.e_make, Dz.e_own1, Dz.e_ownIn, Dz.is_c, Dz.e_star, Dz.sq_lst, Dz.sq_tup, Dz.isL_lst, Dz.e_zip2, Dz.e_enum, Dz.e_sortSet, Dz.own_own, Dz.e_sown, Dz.e_sapp, Dz.e_sput, Dz.e_sins, Dz.e_sext, Dz.e_sfrz, Dz.e_ixo, Dz.e_truo, Dz.slf_slf, Dz.e_sslf, Dz.e_mslf, Dz.e_runI2, Dz.max2, Dz.min2, Dz.e_not, Dz.e_isiT, Dz.isi_lst_lt, Dz.isi_tup_lt, List.getElem?_cons_zero, List.getElem?_cons_succ, isi_non_int, isi_non_bool, isi_non_str, isi_non_tuple, isi_non_list, isi_non_dict, isi_bl_int, isi_bl_bool, isi_bl_str, isi_bl_tuple, isi_bl_list, isi_bl_dict, isi_int_int, isi_int_bool, isi_int_str, isi_int_tuple, isi_int_list, isi_int_dict, isi_str_int, isi_str_bool, isi_str_str, isi_str_tuple, isi_str_list, isi_str_dict, isi_tup_int, isi_tup_bool, isi_tup_str, isi_tup_tuple, isi_tup_list, isi_tup_dict, isi_lst_int, isi_lst_bool, isi_lst_str, isi_lst_tuple, isi_lst_list, isi_lst_dict, isi_dic_int, isi_dic_bool, isi_dic_str, isi_dic_tuple, isi_dic_list, isi_dic_dict]
    rw [if_pos rfl] at q
    split
    · rename_i e
      rw [e] at q
      exact q
    · rename_i e
      have e : decide (p.1 ≤ d) = false := by simpa using e
      rw [e] at q
      exact q
  · rw [filt_id]
    show someD (blsOf _) fun bs => Q (.bl (bs.any id))
    rw [show (F.map fun p => D.bl (decide (p.1 ≤ d) && decide (d ≤ p.2))) = (F.map fun p => decide (p.1 ≤ d) && decide (d ≤ p.2)).map D.bl by rw [List.map_map]; rfl, blsOf_map]
    show Q (.bl ((F.map fun p => decide (p.1 ≤ d) && decide (d ≤ p.2)).any id))
    rw [List.any_map]
    exact h
theorem zip_sps (xs ys : List Int) : zipD (xs.map D.int) (ys.map D.int) = sps (xs.zip ys) := by
  induction xs generalizing ys with
  | nil => rfl
  | cons x xs ih =>
    cases ys with
    | nil => rfl
    | cons y ys =>
      show D.tup [.int x, .int y] :: zipD (xs.map D.int) (ys.map D.int) = _
      rw [ih]; rfl
theorem inv_spec (c : Cs) (F : List (Int × Int)) (hc : Canon F) (hr : Inr F) (hl : F.length ≤ 60) (Q : D → Prop) (h : ∀ F', Canon F' → Inr F' → (∀ x, 0 ≤ x → x ≤ top → has F' x = !has F x) → F'.length ≤ F.length + 1 → Q (dO c F')) : m_Days___invert__ c [dO c F] Q := by
  unfold m_Days___invert__ dO
  simp -implicitDefEqProofs only [Dz.e_rng1, Dz.e_rngQ, Dz.e_seq, Dz.e_next, Dz.e_brk, Dz.e_cont, Dz.e_drop, Dz.e_ifS, Dz.e_asg, Dz.e_par, Dz.e_ret, Dz.e_retN, Dz.e_for, Dz.e_run1, Dz.e_run2, Dz.e_run3, Dz.e_run4, Dz.e_run5, Dz.e_run6, Dz.e_run7, Dz.e_run8, Dz.e_rep0, Dz.e_rep1, Dz.e_rep2, Dz.e_rep3, Dz.e_rep4, Dz.e_rep5, Dz.e_rep6, Dz.e_rep7, Dz.e_rep8, Dz.e_rep9, Dz.e_rep10, Dz.e_rep11, Dz.e_rep12, Dz.e_rep13, Dz.e_rep14, Dz.e_rep15, Dz.e_rep16, Dz.e_rep17, Dz.e_rep18, Dz.e_rep19, Dz.e_rep20, Dz.e_rep21, Dz.e_rep22, Dz.e_rep23, Dz.e_rep24, Dz.e_rep25, Dz.e_v0, Dz.e_s0, Dz.e_v1, Dz.e_s1, Dz.e_v2, Dz.e_s2, Dz.e_v3, Dz.e_s3, Dz.e_v4, Dz.e_s4, Dz.e_v5, Dz.e_s5, Dz.e_v6, Dz.e_s6, Dz.e_v7, Dz.e_s7, Dz.e_v8, Dz.e_s8, Dz.e_v9, Dz.e_s9, Dz.e_v10, Dz.e_s10, Dz.e_v11, Dz.e_s11, Dz.e_v12, Dz.e_s12, Dz.e_v13, Dz.e_s13, Dz.e_v14, Dz.e_s14, Dz.e_v15, Dz.e_s15, Dz.e_v16, Dz.e_s16, Dz.e_v17, Dz.e_s17, Dz.e_v18, Dz.e_s18, Dz.e_v19, Dz.e_s19, Dz.e_v20, Dz.e_s20, Dz.e_v21, Dz.e_s21, Dz.e_v22, Dz.e_s22, Dz.e_v23, Dz.e_s23, Dz.e_v24, Dz.e_s24, Dz.e_v25, Dz.e_s25, Dz.e_c, Dz.e_bin, Dz.e_un, Dz.e_test, Dz.e_tru, Dz.e_and, Dz.e_or, Dz.e_not, Dz.e_yes, Dz.e_andV, Dz.e_orV, Dz.e_notV, Dz.e_orT, Dz.e_andT, Dz.e_if, Dz.e_nil, Dz.e_cons, Dz.e_tup, Dz.e_lst, Dz.e_call, Dz.e_fn, Dz.e_chain, Dz.e_noP, Dz.e_part, Dz.e_sl, Dz.e_m1, Dz.e_m0, Dz.e_gv, Dz.e_gt, Dz.e_gc, Dz.e_gn, Dz.e_lc, Dz.e_w0, Dz.e_w1, Dz.e_list, Dz.e_tupI, Dz.e_strI, Dz.tru_bl, Dz.tru_int, Dz.tru_lst, Dz.tru_tup, Dz.tru_str, Dz.len_lst, Dz.len_tup, Dz.len_str, Dz.add_int', Dz.sub_int', Dz.lt_int', Dz.le_int', Dz.gt_int', Dz.ge_int', Dz.eq_int', Dz.ne_int', Dz.eq_str', Dz.ne_str', Dz.asBl_bl, Dz.asStr_str, Dz.asInt_int, Dz.asLst_lst, Dz.asTup_tup, Dz.add_str', Dz.add_lst', Dz.add_tup', Dz.mul_int', Dz.mul_str', Dz.mod_int'', Dz.div_int', Dz.ix_lst', Dz.ix_tup', Dz.ix_str', Dz.sl_lst', Dz.sl_tup', Dz.sl_str', Dz.neg_int', Dz.at0, Dz.at1, Dz.at2, Dz.at3, Dz.at4, Dz.at5, Dz.at6, Dz.at7, Dz.int_int', Dz.int_bl', Dz.tupF_lst, Dz.tupF_tup, Dz.lstF_lst, Dz.lstF_tup, Dz.is_bl', Dz.not_bl', Dz.take_eq, Dz.some_some, Dz.two_eq, List.length_cons, List.length_nil, List.map_cons, List.map_nil, List.append_nil, List.cons_append, List.nil_append, Nat.reduceAdd, Nat.reduceSub, Nat.reduceLeDiff, Nat.zero_add, Int.toNat_natCast, if_true, if_false, Bool.false_eq_true, Bool.not_true, Bool.not_false, true_and, and_true, ite_true, ite_false, Dz.e_fld, Dz.obj_f, Dz.e_meth, Dz.is_obj, Dz.e_make, Dz.e_own1, Dz.e_ownIn, Dz.is_c, Dz.e_star, Dz.sq_lst, Dz.sq_tup, Dz.isL_lst, Dz.e_zip2, Dz.e_enum, Dz.e_sortSet, Dz.own_own, Dz.e_sown, Dz.e_sapp, Dz.e_sput, Dz.e_sins, Dz.e_sext, Dz.e_sfrz, Dz.e_ixo, Dz.e_truo, Dz.slf_slf, Dz.e_sslf, Dz.e_mslf, Dz.e_runI2, Dz.max2, Dz.min2, Dz.e_not, Dz.e_isiT, Dz.isi_lst_lt, Dz.isi_tup_lt, List.getElem?_cons_zero, List.getElem?_cons_succ, isi_non_int, isi_non_bool, isi_non_str, isi_non_tuple, isi_non_list, isi_non_dict, isi_bl_int, isi_bl_bool, isi_bl_str, isi_bl_tuple, isi_bl_list, isi_bl_dict, isi_int_int, isi_int_bool, isi_int_str, isi_int_tuple, isi_int_list, isi_int_dict, isi_str_int, isi_str_bool, isi_str_str, isi_str_tuple, isi_str_list, isi_str_dict, isi_tup_int, isi_tup_bool, isi_tup_str, isi_tup_tuple, isi_tup_list, isi_tup_dict, isi_lst_int, isi_lst_bool, isi_lst_str, isi_lst_tuple, isi_lst_list, isi_lst_dict, isi_dic_int, isi_dic_bool, isi_dic_str, isi_dic_tuple, isi_dic_list, isi_dic_dict, look_s]
  rw [sps_len]
  refine ⟨size_le (by omega), ?_⟩
  unfold sps
  refine comp_genL _ (fun p => D.int (p.2 + 1)) (fun _ => true) _ _ (fun p hp Q1 Q0 q => ?_) ?_
  · unfold pr
    simp -implicitDefEqProofs only [Dz.e_rng1, Dz.e_rngQ, Dz.e_seq, Dz.e_next, Dz.e_brk, Dz.e_cont, Dz.e_drop, Dz.e_ifS, Dz.e_asg, Dz.e_par, Dz.e_ret, Dz.e_retN, Dz.e_for, Dz.e_run1, Dz.e_run2, Dz.e_run3, Dz.e_run4, Dz.e_run5, Dz.e_run6, Dz.e_run7, Dz.e_run8, Dz.e_rep0, Dz.e_rep1, Dz.e_rep2, Dz.e_rep3, Dz.e_rep4, Dz.e_rep5, Dz.e_rep6, Dz.e_rep7, Dz.e_rep8, Dz.e_rep9, Dz.e_rep10, Dz.e_rep11, Dz.e_rep12, Dz.e_rep13, Dz.e_rep14, Dz.e_rep15, Dz.e_rep16, Dz.e_rep17, Dz.e_rep18, Dz.e_rep19, Dz.e_rep20, Dz.e_rep21, Dz.e_rep22, Dz.e_rep23, Dz.e_rep24, Dz.e_rep25, Dz.e_v0, Dz.e_s0, Dz.e_v1, Dz.e_s1, Dz.e_v2, Dz.e_s2, Dz.e_v3, Dz.e_s3, Dz.e_v4, Dz.e_s4, Dz.e_v5, Dz.e_s5, Dz.e_v6, Dz.e_s6, Dz.e_v7, Dz.e_s7, Dz.e_v8, Dz.e_s8, Dz.e_v9, Dz.e_s9, Dz.e_v10, Dz.e_s10, Dz.e_v11, Dz.e_s11, Dz.e_v12, Dz.e_s12, Dz.e_v13, Dz.e_s13, Dz.e_v14, Dz.e_s14, Dz.e_v15, Dz.e_s15, Dz.e_v16, Dz.e_s16, Dz.e_v17, Dz.e_s17, Dz.e_v18, Dz.e_s18, Dz.e_v19, Dz.e_s19, Dz.e_v20, Dz.e_s20, Dz.e_v21, Dz.e_s21, Dz.e_v22, Dz.e_s22, Dz.e_v23, Dz.e_s23, Dz.e_v24, Dz.e_s24, Dz.e_v25, Dz.e_s25, Dz.e_c, Dz.e_bin, Dz.e_un, Dz.e_test, Dz.e_tru, Dz.e_and, Dz.e_or, Dz.e_not, Dz.e_yes, Dz.e_andV, Dz.e_orV, Dz.e_notV, Dz.e_orT, Dz.e_andT, Dz.e_if, Dz.e_nil, Dz.e_cons, Dz.e_tup, Dz.e_lst, Dz.e_call, Dz.e_fn, Dz.e_chain, Dz.e_noP, Dz.e_part, Dz.e_sl, Dz.e_m1, Dz.e_m0, Dz.e_gv, Dz.e_gt, Dz.e_gc, Dz.e_gn, Dz.e_lc, Dz.e_w0, Dz.e_w1, Dz.e_list, Dz.e_tupI, Dz.e_strI, Dz.tru_bl, Dz.tru_int, Dz.tru_lst, Dz.tru_tup, Dz.tru_str, Dz.len_lst, Dz.len_tup, Dz.len_str, Dz.add_int', Dz.sub_int', Dz.lt_int', Dz.le_int', Dz.gt_int', Dz.ge_int', Dz.eq_int', Dz.ne_int', Dz.eq_str', Dz.ne_str', Dz.asBl_bl, Dz.asStr_str, Dz.asInt_int, Dz.asLst_lst, Dz.asTup_tup, Dz.add_str', Dz.add_lst', Dz.add_tup', Dz.mul_int', Dz.mul_str', Dz.mod_int'', Dz.div_int', Dz.ix_lst', Dz.ix_tup', Dz.ix_str', Dz.sl_lst', Dz.sl_tup', Dz.sl_str', Dz.neg_int', Dz.at0, Dz.at1, Dz.at2, Dz.at3, Dz.at4, Dz.at5, Dz.at6, Dz.at7, Dz.int_int', Dz.int_bl', Dz.tupF_lst, Dz.tupF_tup, Dz.lstF_lst, Dz.lstF_tup, Dz.is_bl', Dz.not_bl', Dz.take_eq, Dz.some_some, Dz.two_eq, List.length_cons, List.length_nil, List.map_cons, List.map_nil, List.append_nil, List.cons_append, List.nil_append, Nat.reduceAdd, Nat.reduceSub, Nat.reduceLeDiff, Nat.zero_add, Int.toNat_natCast, if_true, if_false, Bool.false_eq_true, Bool.not_true, Bool.not_false, true_and, and_true, ite_true, ite_false, Dz.e_fld, Dz.obj_f, Dz.e_meth, Dz.is_obj, Dz.e_make, Dz.e_own1, Dz.e_ownIn, Dz.is_c, Dz.e_star, Dz.sq_lst, Dz.sq_tup, Dz.isL_lst, Dz.e_zip2, Dz.e_enum, Dz.e_sortSet, Dz.own_own, Dz.e_sown, Dz.e_sapp, Dz.e_sput, Dz.e_sins, Dz.e_sext, Dz.e_sfrz, Dz.e_ixo, Dz.e_truo, Dz.slf_slf, Dz.e_sslf, Dz.e_mslf, Dz.e_runI2, Dz.max2, Dz.min2, Dz.e_not, Dz.e_isiT, Dz.isi_lst_lt, Dz.isi_tup_lt, List.getElem?_cons_zero, List.getElem?_cons_succ, isi_non_int, isi_non_bool, isi_non_str, isi_non_tuple, isi_non_list, isi_non_dict, isi_bl_int, isi_bl_bool, isi_bl_str, isi_bl_tuple, isi_bl_list, isi_bl_dict, isi_int_int, isi_int_bool, isi_int_str, isi_int_tuple, isi_int_list, isi_int_dict, isi_str_int, isi_str_bool, isi_str_str, isi_str_tuple, isi_str_list, isi_str_dict, isi_tup_int, isi_tup_bool, isi_tup_str, isi_tup_tuple, isi_tup_list, isi_tup_dict, isi_lst_int, isi_lst_bool, isi_lst_str, isi_lst_tuple, isi_lst_list, isi_lst_dict, isi_dic_int, isi_dic_bool, isi_dic_str, isi_dic_tuple, isi_dic_list, isi_dic_dict]
    rw [if_pos rfl] at q
    exact q
  rw [filt_id]
  refine ⟨by rw [List.length_map]; exact size_le (by omega), size_le (by omega), ?_⟩
  refine comp_genL _ (fun p : Int × Int => D.int (p.1 - 1)) (fun _ => true) _ _ (fun p hp Q1 Q0 q => ?_) ?_
  · unfold pr
    simp -implicitDefEqProofs only [Dz.e_rng1, Dz.e_rngQ, Dz.e_seq, Dz.e_next, Dz.e_brk, Dz.e_cont, Dz.e_drop, Dz.e_ifS, Dz.e_asg, Dz.e_par, Dz.e_ret, Dz.e_retN, Dz.e_for, Dz.e_run1, Dz.e_run2, Dz.e_run3, Dz.e_run4, Dz.e_run5, Dz.e_run6, Dz.e_run7, Dz.e_run8, Dz.e_rep0, Dz.e_rep1, Dz.e_rep2, Dz.e_rep3, Dz.e_rep4, Dz.e_rep5, Dz.e_rep6, Dz.e_rep7, Dz.e_rep8, Dz.e_rep9, Dz.e_rep10, Dz.e_rep11, Dz.e_rep12, Dz.e_rep13, Dz.e_rep14, Dz.e_rep15, Dz.e_rep16, Dz.e_rep17, Dz.e_rep18, Dz.e_rep19, Dz.e_rep20, Dz.e_rep21, Dz.e_rep22, Dz.e_rep23, Dz.e_rep24, Dz.e_rep25, Dz.e_v0, Dz.e_s0, Dz.e_v1, Dz.e_s1, Dz.e_v2, Dz.e_s2, Dz.e_v3, Dz.e_s3, Dz.e_v4, Dz.e_s4, Dz.e_v5, Dz.e_s5, Dz.e_v6, Dz.e_s6, Dz.e_v7, Dz.e_s7, Dz.e_v8, Dz.e_s8, Dz.e_v9, Dz.e_s9, Dz.e_v10, Dz.e_s10, Dz.e_v11, Dz.e_s11, Dz.e_v12, Dz.e_s12, Dz.e_v13, Dz.e_s13, Dz.e_v14, Dz.e_s14, Dz.e_v15, Dz.e_s15, Dz.e_v16, Dz.e_s16, Dz.e_v17, Dz.e_s17, Dz.e_v18, Dz.e_s18, Dz.e_v19, Dz.e_s19, Dz.e_v20, Dz.e_s20, Dz.e_v21, Dz.e_s21, Dz.e_v22, Dz.e_s22, Dz.e_v23, Dz.e_s23, Dz.e_v24, Dz.e_s24, Dz.e_v25, Dz.e_s25, Dz.e_c, Dz.e_bin, Dz.e_un, Dz.e_test, Dz.e_tru, Dz.e_and, Dz.e_or, Dz.e_not, Dz.e_yes, Dz.e_andV, Dz.e_orV, Dz.e_notV, Dz.e_orT, Dz.e_andT, Dz.e_if, Dz.e_nil, Dz.e_cons, Dz.e_tup, Dz.e_lst, Dz.e_call, Dz.e_fn, Dz.e_chain, Dz.e_noP, Dz.e_part, Dz.e_sl, Dz.e_m1, Dz.e_m0, Dz.e_gv, Dz.e_gt, Dz.e_gc, Dz.e_gn, Dz.e_lc, Dz.e_w0, Dz.e_w1, Dz.e_list, Dz.e_tupI, Dz.e_strI, Dz.tru_bl, Dz.tru_int, Dz.tru_lst, Dz.tru_tup, Dz.tru_str, Dz.len_lst, Dz.len_tup, Dz.len_str, Dz.add_int', Dz.sub_int', Dz.lt_int', Dz.le_int', Dz.gt_int', Dz.ge_int', Dz.eq_int', Dz.ne_int', Dz.eq_str', Dz.ne_str', Dz.asBl_bl, Dz.asStr_str, Dz.asInt_int, Dz.asLst_lst, Dz.asTup_tup, Dz.add_str', Dz.add_lst', Dz.add_tup', Dz.mul_int', Dz.mul_str', Dz.mod_int'', Dz.div_int', Dz.ix_lst', Dz.ix_tup', Dz.ix_str', Dz.sl_lst', Dz.sl_tup', Dz.sl_str', Dz.neg_int', Dz.at0, Dz.at1, Dz.at2, Dz.at3, Dz.at4, Dz.at5, Dz.at6, Dz.at7, Dz.int_int', Dz.int_bl', Dz.tupF_lst, Dz.tupF_tup, Dz.lstF_lst, Dz.lstF_tup, Dz.is_bl', Dz.not_bl', Dz.take_eq, Dz.some_some, Dz.two_eq, List.length_cons, List.length_nil, List.map_cons, List.map_nil, List.append_nil, List.cons_append, List.nil_append, Nat.reduceAdd, Nat.reduceSub, Nat.reduceLeDiff, Nat.zero_add, Int.toNat_natCast, if_true, if_false, Bool.false_eq_true, Bool.not_true, Bool.not_false, true_and, and_true, ite_true, ite_false, Dz.e_fld, Dz.obj_f, Dz.e_meth, Dz.is_obj, Dz.e_make, Dz.e_own1, Dz.e_ownIn, Dz.is_c, Dz.e_star, Dz.sq_lst, Dz.sq_tup, Dz.isL_lst, Dz.e_zip2, Dz.e_enum, Dz.e_sortSet, Dz.own_own, Dz.e_sown, Dz.e_sapp, Dz.e_sput, Dz.e_sins, Dz.e_sext, Dz.e_sfrz, Dz.e_ixo, Dz.e_truo, Dz.slf_slf, Dz.e_sslf, Dz.e_mslf, Dz.e_runI2, Dz.max2, Dz.min2, Dz.e_not, Dz.e_isiT, Dz.isi_lst_lt, Dz.isi_tup_lt, List.getElem?_cons_zero, List.getElem?_cons_succ, isi_non_int, isi_non_bool, isi_non_str, isi_non_tuple, isi_non_list, isi_non_dict, isi_bl_int, isi_bl_bool, isi_bl_str, isi_bl_tuple, isi_bl_list, isi_bl_dict, isi_int_int, isi_int_bool, isi_int_str, isi_int_tuple, isi_int_list, isi_int_dict, isi_str_int, isi_str_bool, isi_str_str, isi_str_tuple, isi_str_list, isi_str_dict, isi_tup_int, isi_tup_bool, isi_tup_str, isi_tup_tuple, isi_tup_list, isi_tup_dict, isi_lst_int, isi_lst_bool, isi_lst_str, isi_lst_tuple, isi_lst_list, isi_lst_dict, isi_dic_int, isi_dic_bool, isi_dic_str, isi_dic_tuple, isi_dic_list, isi_dic_dict]
    rw [if_pos rfl] at q
    exact q
  rw [filt_id]
  refine ⟨by rw [List.length_append, List.length_map]; exact size_le (by simp; omega), ?_⟩
  have e1 : (D.int 0 :: F.map fun p => D.int (p.2 + 1)) = (0 :: F.map (·.2 + 1)).map D.int := by rw [List.map_cons, List.map_map]; rfl
  have e2 : ((F.map fun p => D.int (p.1 - 1)) ++ [D.int 1000000000]) = (F.map (fun p : Int × Int => p.1 - 1) ++ [top]).map D.int := by rw [List.map_append, List.map_map]; rfl
  rw [e1, e2, zip_sps]
  have le : ((0 :: F.map (·.2 + 1)).zip (F.map (·.1 - 1) ++ [top])).length ≤ F.length + 1 := by
    rw [List.length_zip]; simp
  refine ⟨by rw [sps_len]; exact size_le (by omega), ?_⟩
  unfold sps
  refine comp_genL _ pr (fun q : Int × Int => decide (q.1 ≤ q.2)) _ _ (fun p hp Q1 Q0 q => ?_) ?_
  · unfold pr
    simp -implicitDefEqProofs only [Dz.e_rng1, Dz.e_rngQ, Dz.e_seq, Dz.e_next, Dz.e_brk, Dz.e_cont, Dz.e_drop, Dz.e_ifS, Dz.e_asg, Dz.e_par, Dz.e_ret, Dz.e_retN, Dz.e_for, Dz.e_run1, Dz.e_run2, Dz.e_run3, Dz.e_run4, Dz.e_run5, Dz.e_run6, Dz.e_run7, Dz.e_run8, Dz.e_rep0, Dz.e_rep1, Dz.e_rep2, Dz.e_rep3, Dz.e_rep4, Dz.e_rep5, Dz.e_rep6, Dz.e_rep7, Dz.e_rep8, Dz.e_rep9, Dz.e_rep10, Dz.e_rep11, Dz.e_rep12, Dz.e_rep13, Dz.e_rep14, Dz.e_rep15, Dz.e_rep16, Dz.e_rep17, Dz.e_rep18, Dz.e_rep19, Dz.e_rep20, Dz.e_rep21, Dz.e_rep22, Dz.e_rep23, Dz.e_rep24, Dz.e_rep25, Dz.e_v0, Dz.e_s0, Dz.e_v1, Dz.e_s1, Dz.e_v2, Dz.e_s2, Dz.e_v3, Dz.e_s3, Dz.e_v4, Dz.e_s4, Dz.e_v5, Dz.e_s5, Dz.e_v6, Dz.e_s6, Dz.e_v7, Dz.e_s7, Dz.e_v8, Dz.e_s8, Dz.e_v9, Dz.e_s9, Dz.e_v10, Dz.e_s10, Dz.e_v11, Dz.e_s11, Dz.e_v12, Dz.e_s12, Dz.e_v13, Dz.e_s13, Dz.e_v14, Dz.e_s14, Dz.e_v15, Dz.e_s15, Dz.e_v16, Dz.e_s16, Dz.e_v17, Dz.e_s17, Dz.e_v18, Dz.e_s18, Dz.e_v19, Dz.e_s19, Dz.e_v20, Dz.e_s20, Dz.e_v21, Dz.e_s21, Dz.e_v22, Dz.e_s22, Dz.e_v23, Dz.e_s23, Dz.e_v24, Dz.e_s24, Dz.e_v25, Dz.e_s25, Dz.e_c, Dz.e_bin, Dz.e_un, Dz.e_test, Dz.e_tru, Dz.e_and, Dz.e_or, Dz.e_not, Dz.e_yes, Dz.e_andV, Dz.e_orV, Dz.e_notV, Dz.e_orT, Dz.e_andT, Dz.e_if, Dz.e_nil, Dz.e_cons, Dz.e_tup, Dz.e_lst, Dz.e_call, Dz.e_fn, Dz.e_chain, Dz.e_noP, Dz.e_part, Dz.e_sl, Dz.e_m1, Dz.e_m0, Dz.e_gv, Dz.e_gt, Dz.e_gc, Dz.e_gn, Dz.e_lc, Dz.e_w0, Dz.e_w1, Dz.e_list, Dz.e_tupI, Dz.e_strI, Dz.tru_bl, Dz.tru_int, Dz.tru_lst, Dz.tru_tup, Dz.tru_str, Dz.len_lst, Dz.len_tup, Dz.len_str, Dz.add_int', Dz.sub_int', Dz.lt_int', Dz.le_int', Dz.gt_int', Dz.ge_int', Dz.eq_int', Dz.ne_int', Dz.eq_str', Dz.ne_str', Dz.asBl_bl, Dz.asStr_str, Dz.asInt_int, Dz.asLst_lst, Dz.asTup_tup, Dz.add_str', Dz.add_lst', Dz.add_tup', Dz.mul_int', Dz.mul_str', Dz.mod_int'', Dz.div_int', Dz.ix_lst', Dz.ix_tup', Dz.ix_str', Dz.sl_lst', Dz.sl_tup', Dz.sl_str', Dz.neg_int', Dz.at0, Dz.at1, Dz.at2, Dz.at3, Dz.at4, Dz.at5, Dz.at6, Dz.at7, Dz.int_int', Dz.int_bl', Dz.tupF_lst, Dz.tupF_tup, Dz.lstF_lst, Dz.lstF_tup, Dz.is_bl', Dz.not_bl', Dz.take_eq, Dz.some_some, Dz.two_eq, List.length_cons, List.length_nil, List.map_cons, List.map_nil, List.append_nil, List.cons_append, List.nil_append, Nat.reduceAdd, Nat.reduceSub, Nat.reduceLeDiff, Nat.zero_add, Int.toNat_natCast, if_true, if_false, Bool.false_eq_true, Bool.not_true, Bool.not_false, true_and, and_true, ite_true, ite_false, Dz.e_fld, Dz.obj_f, Dz.e_meth, Dz.is_obj, Dz.e_make, Dz.e_own1, Dz.e_ownIn, Dz.is_c, Dz.e_star, Dz.sq_lst, Dz.sq_tup, Dz.isL_lst, Dz.e_zip2, Dz.e_enum, Dz.e_sortSet, Dz.own_own, Dz.e_sown, Dz.e_sapp, Dz.e_sput, Dz.e_sins, Dz.e_sext, Dz.e_sfrz, Dz.e_ixo, Dz.e_truo, Dz.slf_slf, Dz.e_sslf, Dz.e_mslf, Dz.e_runI2, Dz.max2, Dz.min2, Dz.e_not, Dz.e_isiT, Dz.isi_lst_lt, Dz.isi_tup_lt, List.getElem?_cons_zero, List.getElem?_cons_succ, isi_non_int, isi_non_bool, isi_non_str, isi_non_tuple, isi_non_list, isi_non_dict, isi_bl_int, isi_bl_bool, isi_bl_str, isi_bl_tuple, isi_bl_list, isi_bl_dict, isi_int_int, isi_int_bool, isi_int_str, isi_int_tuple, isi_int_list, isi_int_dict, isi_str_int, isi_str_bool, isi_str_str, isi_str_tuple, isi_str_list, isi_str_dict, isi_tup_int, isi_tup_bool, isi_tup_str, isi_tup_tuple, isi_tup_list, isi_tup_dict, isi_lst_int, isi_lst_bool, isi_lst_str, isi_lst_tuple, isi_lst_list, isi_lst_dict, isi_dic_int, isi_dic_bool, isi_dic_str, isi_dic_tuple, isi_dic_list, isi_dic_dict]
    split
    · rename_i z
      rw [if_pos z] at q
      exact ⟨by decide, q⟩
    · rename_i z
      rw [if_neg z] at q
      exact q
  rw [gaps_eq]
  have gl := gaps_len F 0
  refine fun a => init_spec c a (gaps 0 F) (gaps_inr F 0 (by omega) hr) (by omega) _ fun F' c1 c2 c3 c4 => h F' c1 c2 (fun x x0 x1 => ?_) (by omega)
  rw [c3]
  have g := gaps_has F 0 x hc hr fun p hp => (hr p hp).1
  cases z : has F x with
  | true =>
    cases y : has (gaps 0 F) x with
    | false => rfl
    | true => have := (g.mp y).2.2; rw [z] at this; cases this
  | false => exact g.mpr ⟨x0, x1, z⟩
end K23

namespace K23
open PySem PySem.Spec PyProof.Rows L2 Dz DY
theorem isC_dO (c : Cs) (F : List (Int × Int)) (Q : Prop) : isC c.Days (dO c F) Q = Q := propext ⟨fun h => h.2, fun h => ⟨rfl, h⟩⟩
theorem isO_turn (c : Cs) (F : List (Int × Int)) (Q : Prop) : isObj c.Days "turn" (dO c F) Q = Q := propext ⟨fun h => h.2, fun h => ⟨⟨rfl, rfl⟩, h⟩⟩
theorem isO_beyond (c : Cs) (F : List (Int × Int)) (Q : Prop) : isObj c.Days "beyond" (dO c F) Q = Q := propext ⟨fun h => h.2, fun h => ⟨⟨rfl, rfl⟩, h⟩⟩
theorem isO_earliest (c : Cs) (F : List (Int × Int)) (Q : Prop) : isObj c.Days "earliest" (dO c F) Q = Q := propext ⟨fun h => h.2, fun h => ⟨⟨rfl, rfl⟩, h⟩⟩
theorem turn_spec (c : Cs) (F : List (Int × Int)) (hc : Canon F) (hr : Inr F) (hl : F.length ≤ 60) (d : Int) (hd : 0 ≤ d) (Q : D → Prop) (h : ∀ r, First (fun x => has F x == !has F d) d r → Q (oD r)) : m_Days_turn c [dO c F, .int d] Q := by
  unfold m_Days_turn
  simp -implicitDefEqProofs only [Dz.e_rng1, Dz.e_rngQ, Dz.e_seq, Dz.e_next, Dz.e_brk, Dz.e_cont, Dz.e_drop, Dz.e_ifS, Dz.e_asg, Dz.e_par, Dz.e_ret, Dz.e_retN, Dz.e_for, Dz.e_run1, Dz.e_run2, Dz.e_run3, Dz.e_run4, Dz.e_run5, Dz.e_run6, Dz.e_run7, Dz.e_run8, Dz.e_rep0, Dz.e_rep1, Dz.e_rep2, Dz.e_rep3, Dz.e_rep4, Dz.e_rep5, Dz.e_rep6, Dz.e_rep7, Dz.e_rep8, Dz.e_rep9, Dz.e_rep10, Dz.e_rep11, Dz.e_rep12, Dz.e_rep13, Dz.e_rep14, Dz.e_rep15, Dz.e_rep16, Dz.e_rep17, Dz.e_rep18, Dz.e_rep19, Dz.e_rep20, Dz.e_rep21, Dz.e_rep22, Dz.e_rep23, Dz.e_rep24, Dz.e_rep25, Dz.e_v0, Dz.e_s0, Dz.e_v1, Dz.e_s1, Dz.e_v2, Dz.e_s2, Dz.e_v3, Dz.e_s3, Dz.e_v4, Dz.e_s4, Dz.e_v5, Dz.e_s5, Dz.e_v6, Dz.e_s6, Dz.e_v7, Dz.e_s7, Dz.e_v8, Dz.e_s8, Dz.e_v9, Dz.e_s9, Dz.e_v10, Dz.e_s10, Dz.e_v11, Dz.e_s11, Dz.e_v12, Dz.e_s12, Dz.e_v13, Dz.e_s13, Dz.e_v14, Dz.e_s14, Dz.e_v15, Dz.e_s15, Dz.e_v16, Dz.e_s16, Dz.e_v17, Dz.e_s17, Dz.e_v18, Dz.e_s18, Dz.e_v19, Dz.e_s19, Dz.e_v20, Dz.e_s20, Dz.e_v21, Dz.e_s21, Dz.e_v22, Dz.e_s22, Dz.e_v23, Dz.e_s23, Dz.e_v24, Dz.e_s24, Dz.e_v25, Dz.e_s25, Dz.e_c, Dz.e_bin, Dz.e_un, Dz.e_test, Dz.e_tru, Dz.e_and, Dz.e_or, Dz.e_not, Dz.e_yes, Dz.e_andV, Dz.e_orV, Dz.e_notV, Dz.e_orT, Dz.e_andT, Dz.e_if, Dz.e_nil, Dz.e_cons, Dz.e_tup, Dz.e_lst, Dz.e_call, Dz.e_fn, Dz.e_chain, Dz.e_noP, Dz.e_part, Dz.e_sl, Dz.e_m1, Dz.e_m0, Dz.e_gv, Dz.e_gt, Dz.e_gc, Dz.e_gn, Dz.e_lc, Dz.e_w0, Dz.e_w1, Dz.e_list, Dz.e_tupI, Dz.e_strI, Dz.tru_bl, Dz.tru_int, Dz.tru_lst, Dz.tru_tup, Dz.tru_str, Dz.len_lst, Dz.len_tup, Dz.len_str, Dz.add_int', Dz.sub_int', Dz.lt_int', Dz.le_int', Dz.gt_int', Dz.ge_int', Dz.eq_int', Dz.ne_int', Dz.eq_str', Dz.ne_str', Dz.asBl_bl, Dz.asStr_str, Dz.asInt_int, Dz.asLst_lst, Dz.asTup_tup, Dz.add_str', Dz.add_lst', Dz.add_tup', Dz.mul_int', Dz.mul_str', Dz.mod_int'', Dz.div_int', Dz.ix_lst', Dz.ix_tup', Dz.ix_str', Dz.sl_lst', Dz.sl_tup', Dz.sl_str', Dz.neg_int', Dz.at0, Dz.at1, Dz.at2, Dz.at3, Dz.at4, Dz.at5, Dz.at6, Dz.at7, Dz.int_int', Dz.int_bl', Dz.tupF_lst, Dz.tupF_tup, Dz.lstF_lst, Dz.lstF_tup, Dz.is_bl', Dz.not_bl', Dz.take_eq, Dz.some_some, Dz.two_eq, List.length_cons, List.length_nil, List.map_cons, List.map_nil, List.append_nil, List.cons_append, List.nil_append, Nat.reduceAdd, Nat.reduceSub, Nat.reduceLeDiff, Nat.zero_add, Int.toNat_natCast, if_true, if_false, Bool.false_eq_true, Bool.not_true, Bool.not_false, true_and, and_true, ite_true, ite_false, Dz.e_fld, Dz.obj_f, Dz.e_meth, Dz.is_obj, Dz.e_make, Dz.e_own1, Dz.e_ownIn, Dz.is_c, Dz.e_star, Dz.sq_lst, Dz.sq_tup, Dz.isL_lst, Dz.e_zip2, Dz.e_enum, Dz.e_sortSet, Dz.own_own, Dz.e_sown, Dz.e_sapp, Dz.e_sput, Dz.e_sins, Dz.e_sext, Dz.e_sfrz, Dz.e_ixo, Dz.e_truo, Dz.slf_slf, Dz.e_sslf, Dz.e_mslf, Dz.e_runI2, Dz.max2, Dz.min2, Dz.e_not, Dz.e_isiT, Dz.isi_lst_lt, Dz.isi_tup_lt, List.getElem?_cons_zero, List.getElem?_cons_succ, isi_non_int, isi_non_bool, isi_non_str, isi_non_tuple, isi_non_list, isi_non_dict, isi_bl_int, isi_bl_bool, isi_bl_str, isi_bl_tuple, isi_bl_list, isi_bl_dict, isi_int_int, isi_int_bool, isi_int_str, isi_int_tuple, isi_int_list, isi_int_dict, isi_str_int, isi_str_bool, isi_str_str, isi_str_tuple, isi_str_list, isi_str_dict, isi_tup_int, isi_tup_bool, isi_tup_str, isi_tup_tuple, isi_tup_list, isi_tup_dict, isi_lst_int, isi_lst_bool, isi_lst_str, isi_lst_tuple, isi_lst_list, isi_lst_dict, isi_dic_int, isi_dic_bool, isi_dic_str, isi_dic_tuple, isi_dic_list, isi_dic_dict, isC_dO, isO_beyond]
  refine in_spec c F (by omega) d _ ?_
  simp -implicitDefEqProofs only [Dz.e_rng1, Dz.e_rngQ, Dz.e_seq, Dz.e_next, Dz.e_brk, Dz.e_cont, Dz.e_drop, Dz.e_ifS, Dz.e_asg, Dz.e_par, Dz.e_ret, Dz.e_retN, Dz.e_for, Dz.e_run1, Dz.e_run2, Dz.e_run3, Dz.e_run4, Dz.e_run5, Dz.e_run6, Dz.e_run7, Dz.e_run8, Dz.e_rep0, Dz.e_rep1, Dz.e_rep2, Dz.e_rep3, Dz.e_rep4, Dz.e_rep5, Dz.e_rep6, Dz.e_rep7, Dz.e_rep8, Dz.e_rep9, Dz.e_rep10, Dz.e_rep11, Dz.e_rep12, Dz.e_rep13, Dz.e_rep14, Dz.e_rep15, Dz.e_rep16, Dz.e_rep17, Dz.e_rep18, Dz.e_rep19, Dz.e_rep20, Dz.e_rep21, Dz.e_rep22, Dz.e_rep23, Dz.e_rep24, Dz.e_rep25, Dz.e_v0, Dz.e_s0, Dz.e_v1, Dz.e_s1, Dz.e_v2, Dz.e_s2, Dz.e_v3, Dz.e_s3, Dz.e_v4, Dz.e_s4, Dz.e_v5, Dz.e_s5, Dz.e_v6, Dz.e_s6, Dz.e_v7, Dz.e_s7, Dz.e_v8, Dz.e_s8, Dz.e_v9, Dz.e_s9, Dz.e_v10, Dz.e_s10, Dz.e_v11, Dz.e_s11, Dz.e_v12, Dz.e_s12, Dz.e_v13, Dz.e_s13, Dz.e_v14, Dz.e_s14, Dz.e_v15, Dz.e_s15, Dz.e_v16, Dz.e_s16, Dz.e_v17, Dz.e_s17, Dz.e_v18, Dz.e_s18, Dz.e_v19, Dz.e_s19, Dz.e_v20, Dz.e_s20, Dz.e_v21, Dz.e_s21, Dz.e_v22, Dz.e_s22, Dz.e_v23, Dz.e_s23, Dz.e_v24, Dz.e_s24, Dz.e_v25, Dz.e_s25, Dz.e_c, Dz.e_bin, Dz.e_un, Dz.e_test, Dz.e_tru, Dz.e_and, Dz.e_or, Dz.e_not, Dz.e_yes, Dz.e_andV, Dz.e_orV, Dz.e_notV, Dz.e_orT, Dz.e_andT, Dz.e_if, Dz.e_nil, Dz.e_cons, Dz.e_tup, Dz.e_lst, Dz.e_call, Dz.e_fn, Dz.e_chain, Dz.e_noP, Dz.e_part, Dz.e_sl, Dz.e_m1, Dz.e_m0, Dz.e_gv, Dz.e_gt, Dz.e_gc, Dz.e_gn, Dz.e_lc, Dz.e_w0, Dz.e_w1, Dz.e_list, Dz.e_tupI, Dz.e_strI, Dz.tru_bl, Dz.tru_int, Dz.tru_lst, Dz.tru_tup, Dz.tru_str, Dz.len_lst, Dz.len_tup, Dz.len_str, Dz.add_int', Dz.sub_int', Dz.lt_int', Dz.le_int', Dz.gt_int', Dz.ge_int', Dz.eq_int', Dz.ne_int', Dz.eq_str', Dz.ne_str', Dz.asBl_bl, Dz.asStr_str, Dz.asInt_int, Dz.asLst_lst, Dz.asTup_tup, Dz.add_str', Dz.add_lst', Dz.add_tup', Dz.mul_int', Dz.mul_str', Dz.mod_int'', Dz.div_int', Dz.ix_lst', Dz.ix_tup', Dz.ix_str', Dz.sl_lst', Dz.sl_tup', Dz.sl_str', Dz.neg_int', Dz.at0, Dz.at1, Dz.at2, Dz.at3, Dz.at4, Dz.at5, Dz.at6, Dz.at7, Dz.int_int', Dz.int_bl', Dz.tupF_lst, Dz.tupF_tup, Dz.lstF_lst, Dz.lstF_tup, Dz.is_bl', Dz.not_bl', Dz.take_eq, Dz.some_some, Dz.two_eq, List.length_cons, List.length_nil, List.map_cons, List.map_nil, List.append_nil, List.cons_append, List.nil_append, Nat.reduceAdd, Nat.reduceSub, Nat.reduceLeDiff, Nat.zero_add, Int.toNat_natCast, if_true, if_false, Bool.false_eq_true, Bool.not_true, Bool.not_false, true_and, and_true, ite_true, ite_false, Dz.e_fld, Dz.obj_f, Dz.e_meth, Dz.is_obj, Dz.e_make, Dz.e_own1, Dz.e_ownIn, Dz.is_c, Dz.e_star, Dz.sq_lst, Dz.sq_tup, Dz.isL_lst, Dz.e_zip2, Dz.e_enum, Dz.e_sortSet, Dz.own_own, Dz.e_sown, Dz.e_sapp, Dz.e_sput, Dz.e_sins, Dz.e_sext, Dz.e_sfrz, Dz.e_ixo, Dz.e_truo, Dz.slf_slf, Dz.e_sslf, Dz.e_mslf, Dz.e_runI2, Dz.max2, Dz.min2, Dz.e_not, Dz.e_isiT, Dz.isi_lst_lt, Dz.isi_tup_lt, List.getElem?_cons_zero, List.getElem?_cons_succ, isi_non_int, isi_non_bool, isi_non_str, isi_non_tuple, isi_non_list, isi_non_dict, isi_bl_int, isi_bl_bool, isi_bl_str, isi_bl_tuple, isi_bl_list, isi_bl_dict, isi_int_int, isi_int_bool, isi_int_str, isi_int_tuple, isi_int_list, isi_int_dict, isi_str_int, isi_str_bool, isi_str_str, isi_str_tuple, isi_str_list, isi_str_dict, isi_tup_int, isi_tup_bool, isi_tup_str, isi_tup_tuple, isi_tup_list, isi_tup_dict, isi_lst_int, isi_lst_bool, isi_lst_str, isi_lst_tuple, isi_lst_list, isi_lst_dict, isi_dic_int, isi_dic_bool, isi_dic_str, isi_dic_tuple, isi_dic_list, isi_dic_dict, isC_dO, isO_beyond]
  cases z : has F d with
  | true =>
    rw [if_pos rfl]
    refine inv_spec c F hc hr hl _ fun F' c1 c2 c3 c4 => ?_
    rw [isO_beyond]
    refine bey_spec c F' d _ (h _ ?_)
    refine (bey_first d c1 c2).congr fun x x1 x2 => ?_
    rw [c3 x (by omega) x2, z]
    cases has F x <;> rfl
  | false =>
    rw [if_neg Bool.false_ne_true]
    refine bey_spec c F d _ (h _ ?_)
    refine (bey_first d hc hr).congr fun x x1 x2 => ?_
    rw [z]
    cases has F x <;> rfl
theorem hasday_spec (c : Cs) (S : List (Int × Int)) (hl : S.length ≤ 1000) (d : Int) (Q : D → Prop) (h : Q (.bl (has S d))) : m__law_has_day c [.lst (sps S), .int d] Q := by
  unfold m__law_has_day
  simp -implicitDefEqProofs only [Dz.e_rng1, Dz.e_rngQ, Dz.e_seq, Dz.e_next, Dz.e_brk, Dz.e_cont, Dz.e_drop, Dz.e_ifS, Dz.e_asg, Dz.e_par, Dz.e_ret, Dz.e_retN, Dz.e_for, Dz.e_run1, Dz.e_run2, Dz.e_run3, Dz.e_run4, Dz.e_run5, Dz.e_run6, Dz.e_run7, Dz.e_run8, Dz.e_rep0, Dz.e_rep1, Dz.e_rep2, Dz.e_rep3, Dz.e_rep4, Dz.e_rep5, Dz.e_rep6, Dz.e_rep7, Dz.e_rep8, Dz.e_rep9, Dz.e_rep10, Dz.e_rep11, Dz.e_rep12, Dz.e_rep13, Dz.e_rep14, Dz.e_rep15, Dz.e_rep16, Dz.e_rep17, Dz.e_rep18, Dz.e_rep19, Dz.e_rep20, Dz.e_rep21, Dz.e_rep22, Dz.e_rep23, Dz.e_rep24, Dz.e_rep25, Dz.e_v0, Dz.e_s0, Dz.e_v1, Dz.e_s1, Dz.e_v2, Dz.e_s2, Dz.e_v3, Dz.e_s3, Dz.e_v4, Dz.e_s4, Dz.e_v5, Dz.e_s5, Dz.e_v6, Dz.e_s6, Dz.e_v7, Dz.e_s7, Dz.e_v8, Dz.e_s8, Dz.e_v9, Dz.e_s9, Dz.e_v10, Dz.e_s10, Dz.e_v11, Dz.e_s11, Dz.e_v12, Dz.e_s12, Dz.e_v13, Dz.e_s13, Dz.e_v14, Dz.e_s14, Dz.e_v15, Dz.e_s15, Dz.e_v16, Dz.e_s16, Dz.e_v17, Dz.e_s17, Dz.e_v18, Dz.e_s18, Dz.e_v19, Dz.e_s19, Dz.e_v20, Dz.e_s20, Dz.e_v21, Dz.e_s21, Dz.e_v22, Dz.e_s22, Dz.e_v23, Dz.e_s23, Dz.e_v24, Dz.e_s24, Dz.e_v25, Dz.e_s25, Dz.e_c, Dz.e_bin, Dz.e_un, Dz.e_test, Dz.e_tru, Dz.e_and, Dz.e_or, Dz.e_not, Dz.e_yes, Dz.e_andV, Dz.e_orV, Dz.e_notV, Dz.e_orT, Dz.e_andT, Dz.e_if, Dz.e_nil, Dz.e_cons, Dz.e_tup, Dz.e_lst, Dz.e_call, Dz.e_fn, Dz.e_chain, Dz.e_noP, Dz.e_part, Dz.e_sl, Dz.e_m1, Dz.e_m0, Dz.e_gv, Dz.e_gt, Dz.e_gc, Dz.e_gn, Dz.e_lc, Dz.e_w0, Dz.e_w1, Dz.e_list, Dz.e_tupI, Dz.e_strI, Dz.tru_bl, Dz.tru_int, Dz.tru_lst, Dz.tru_tup, Dz.tru_str, Dz.len_lst, Dz.len_tup, Dz.len_str, Dz.add_int', Dz.sub_int', Dz.lt_int', Dz.le_int', Dz.gt_int', Dz.ge_int', Dz.eq_int', Dz.ne_int', Dz.eq_str', Dz.ne_str', Dz.asBl_bl, Dz.asStr_str, Dz.asInt_int, Dz.asLst_lst, Dz.asTup_tup, Dz.add_str', Dz.add_lst', Dz.add_tup', Dz.mul_int', Dz.mul_str', Dz.mod_int'', Dz.div_int', Dz.ix_lst', Dz.ix_tup', Dz.ix_str', Dz.sl_lst', Dz.sl_tup', Dz.sl_str', Dz.neg_int', Dz.at0, Dz.at1, Dz.at2, Dz.at3, Dz.at4, Dz.at5, Dz.at6, Dz.at7, Dz.int_int', Dz.int_bl', Dz.tupF_lst, Dz.tupF_tup, Dz.lstF_lst, Dz.lstF_tup, Dz.is_bl', Dz.not_bl', Dz.take_eq, Dz.some_some, Dz.two_eq, List.length_cons, List.length_nil, List.map_cons, List.map_nil, List.append_nil, List.cons_append, List.nil_append, Nat.reduceAdd, Nat.reduceSub, Nat.reduceLeDiff, Nat.zero_add, Int.toNat_natCast, if_true, if_false, Bool.false_eq_true, Bool.not_true, Bool.not_false, true_and, and_true, ite_true, ite_false, Dz.e_fld, Dz.obj_f, Dz.e_meth, Dz.is_obj, Dz.e_make, Dz.e_own1, Dz.e_ownIn, Dz.is_c, Dz.e_star, Dz.sq_lst, Dz.sq_tup, Dz.isL_lst, Dz.e_zip2, Dz.e_enum, Dz.e_sortSet, Dz.own_own, Dz.e_sown, Dz.e_sapp, Dz.e_sput, Dz.e_sins, Dz.e_sext, Dz.e_sfrz, Dz.e_ixo, Dz.e_truo, Dz.slf_slf, Dz.e_sslf, Dz.e_mslf, Dz.e_runI2, Dz.max2, Dz.min2, Dz.e_not, Dz.e_isiT, Dz.isi_lst_lt, Dz.isi_tup_lt, List.getElem?_cons_zero, List.getElem?_cons_succ, isi_non_int, isi_non_bool, isi_non_str, isi_non_tuple, isi_non_list, isi_non_dict, isi_bl_int, isi_bl_bool, isi_bl_str, isi_bl_tuple, isi_bl_list, isi_bl_dict, isi_int_int, isi_int_bool, isi_int_str, isi_int_tuple, isi_int_list, isi_int_dict, isi_str_int, isi_str_bool, isi_str_str, isi_str_tuple, isi_str_list, isi_str_dict, isi_tup_int, isi_tup_bool, isi_tup_str, isi_tup_tuple, isi_tup_list, isi_tup_dict, isi_lst_int, isi_lst_bool, isi_lst_str, isi_lst_tuple, isi_lst_list, isi_lst_dict, isi_dic_int, isi_dic_bool, isi_dic_str, isi_dic_tuple, isi_dic_list, isi_dic_dict]
  refine ⟨by rw [sps_len]; exact size_le (by omega), ?_⟩
  unfold sps
  refine comp_genL _ (fun _ => D.int 1) (fun p : Int × Int => decide (p.1 ≤ d) && decide (d ≤ p.2)) _ _ (fun p hp Q1 Q0 q => ?_) ?_
  · unfold pr
    simp -implicitDefEqProofs only [Dz.e_rng1, Dz.e_rngQ, Dz.e_seq, Dz.e_next, Dz.e_brk, Dz.e_cont, Dz.e_drop, Dz.e_ifS, Dz.e_asg, Dz.e_par, Dz.e_ret, Dz.e_retN, Dz.e_for, Dz.e_run1, Dz.e_run2, Dz.e_run3, Dz.e_run4, Dz.e_run5, Dz.e_run6, Dz.e_run7, Dz.e_run8, Dz.e_rep0, Dz.e_rep1, Dz.e_rep2, Dz.e_rep3, Dz.e_rep4, Dz.e_rep5, Dz.e_rep6, Dz.e_rep7, Dz.e_rep8, Dz.e_rep9, Dz.e_rep10, Dz.e_rep11, Dz.e_rep12, Dz.e_rep13, Dz.e_rep14, Dz.e_rep15, Dz.e_rep16, Dz.e_rep17, Dz.e_rep18, Dz.e_rep19, Dz.e_rep20, Dz.e_rep21, Dz.e_rep22, Dz.e_rep23, Dz.e_rep24, Dz.e_rep25, Dz.e_v0, Dz.e_s0, Dz.e_v1, Dz.e_s1, Dz.e_v2, Dz.e_s2, Dz.e_v3, Dz.e_s3, Dz.e_v4, Dz.e_s4, Dz.e_v5, Dz.e_s5, Dz.e_v6, Dz.e_s6, Dz.e_v7, Dz.e_s7, Dz.e_v8, Dz.e_s8, Dz.e_v9, Dz.e_s9, Dz.e_v10, Dz.e_s10, Dz.e_v11, Dz.e_s11, Dz.e_v12, Dz.e_s12, Dz.e_v13, Dz.e_s13, Dz.e_v14, Dz.e_s14, Dz.e_v15, Dz.e_s15, Dz.e_v16, Dz.e_s16, Dz.e_v17, Dz.e_s17, Dz.e_v18, Dz.e_s18, Dz.e_v19, Dz.e_s19, Dz.e_v20, Dz.e_s20, Dz.e_v21, Dz.e_s21, Dz.e_v22, Dz.e_s22, Dz.e_v23, Dz.e_s23, Dz.e_v24, Dz.e_s24, Dz.e_v25, Dz.e_s25, Dz.e_c, Dz.e_bin, Dz.e_un, Dz.e_test, Dz.e_tru, Dz.e_and, Dz.e_or, Dz.e_not, Dz.e_yes, Dz.e_andV, Dz.e_orV, Dz.e_notV, Dz.e_orT, Dz.e_andT, Dz.e_if, Dz.e_nil, Dz.e_cons, Dz.e_tup, Dz.e_lst, Dz.e_call, Dz.e_fn, Dz.e_chain, Dz.e_noP, Dz.e_part, Dz.e_sl, Dz.e_m1, Dz.e_m0, Dz.e_gv, Dz.e_gt, Dz.e_gc, Dz.e_gn, Dz.e_lc, Dz.e_w0, Dz.e_w1, Dz.e_list, Dz.e_tupI, Dz.e_strI, Dz.tru_bl, Dz.tru_int, Dz.tru_lst, Dz.tru_tup, Dz.tru_str, Dz.len_lst, Dz.len_tup, Dz.len_str, Dz.add_int', Dz.sub_int', Dz.lt_int', Dz.le_int', Dz.gt_int', Dz.ge_int', Dz.eq_int', Dz.ne_int', Dz.eq_str', Dz.ne_str', Dz.asBl_bl, Dz.asStr_str, Dz.asInt_int, Dz.asLst_lst, Dz.asTup_tup, Dz.add_str', Dz.add_lst', Dz.add_tup', Dz.mul_int', Dz.mul_str', Dz.mod_int'', Dz.div_int', Dz.ix_lst', Dz.ix_tup', Dz.ix_str', Dz.sl_lst', Dz.sl_tup', Dz.sl_str', Dz.neg_int', Dz.at0, Dz.at1, Dz.at2, Dz.at3, Dz.at4, Dz.at5, Dz.at6, Dz.at7, Dz.int_int', Dz.int_bl', Dz.tupF_lst, Dz.tupF_tup, Dz.lstF_lst, Dz.lstF_tup, Dz.is_bl', Dz.not_bl', Dz.take_eq, Dz.some_some, Dz.two_eq, List.length_cons, List.length_nil, List.map_cons, List.map_nil, List.append_nil, List.cons_append, List.nil_append, Nat.reduceAdd, Nat.reduceSub, Nat.reduceLeDiff, Nat.zero_add, Int.toNat_natCast, if_true, if_false, Bool.false_eq_true, Bool.not_true, Bool.not_false, true_and, and_true, ite_true, ite_false, Dz.e_fld, Dz.obj_f, Dz.e_meth, Dz.is_obj, Dz.e_make, Dz.e_own1, Dz.e_ownIn, Dz.is_c, Dz.e_star, Dz.sq_lst, Dz.sq_tup, Dz.isL_lst, Dz.e_zip2, Dz.e_enum, Dz.e_sortSet, Dz.own_own, Dz.e_sown, Dz.e_sapp, Dz.e_sput, Dz.e_sins, Dz.e_sext, Dz.e_sfrz, Dz.e_ixo, Dz.e_truo, Dz.slf_slf, Dz.e_sslf, Dz.e_mslf, Dz.e_runI2, Dz.max2, Dz.min2, Dz.e_not, Dz.e_isiT, Dz.isi_lst_lt, Dz.isi_tup_lt, List.getElem?_cons_zero, List.getElem?_cons_succ, isi_non_int, isi_non_bool, isi_non_str, isi_non_tuple, isi_non_list, isi_non_dict, isi_bl_int, isi_bl_bool, isi_bl_str, isi_bl_tuple, isi_bl_list, isi_bl_dict, isi_int_int, isi_int_bool, isi_int_str, isi_int_tuple, isi_int_list, isi_int_dict, isi_str_int, isi_str_bool, isi_str_str, isi_str_tuple, isi_str_list, isi_str_dict, isi_tup_int, isi_tup_bool, isi_tup_str, isi_tup_tuple, isi_tup_list, isi_tup_dict, isi_lst_int, isi_lst_bool, isi_lst_str, isi_lst_tuple, isi_lst_list, isi_lst_dict, isi_dic_int, isi_dic_bool, isi_dic_str, isi_dic_tuple, isi_dic_list, isi_dic_dict]
    split
    · rename_i e
      rw [e] at q
      simpa using q
    · rename_i e
      have e : decide (p.1 ≤ d) = false := by simpa using e
      rw [e] at q
      simpa using q
  · refine ⟨by decide, ?_⟩
    rw [show ((S.filter fun p => decide (p.1 ≤ d) && decide (d ≤ p.2)).map fun _ => D.int 1) = ((S.filter fun p => decide (p.1 ≤ d) && decide (d ≤ p.2)).map fun _ => (1 : Int)).map D.int by rw [List.map_map]; rfl]
    rw [ne_ints]
    have : (!((S.filter fun p => decide (p.1 ≤ d) && decide (d ≤ p.2)).map fun _ => (1 : Int)).isEmpty) = has S d := by
      unfold has
      clear h hl
      induction S with
      | nil => rfl
      | cons p S ih =>
        rw [List.any_cons, List.filter_cons]
        split
        · rename_i z; rw [z]; rfl
        · rename_i z
          rw [ih]
          rw [Bool.not_eq_true] at z
          rw [z]; rfl
    rw [this]; exact h
/-- the points that may turn, as the law collects them -/
theorem points_spec (c : Cs) (S : List (Int × Int)) (hl : S.length ≤ 20) (Q : D → Prop) (h : ∀ ms : List Int, ms.Pairwise (· < ·) → (∀ k, k ∈ ms ↔ k ∈ points S ∧ k ≤ top) → Q (.lst (ms.map D.int))) : m__law_points c [.lst [.lst (sps S)]] Q := by
  unfold m__law_points
  simp -implicitDefEqProofs only [Dz.e_rng1, Dz.e_rngQ, Dz.e_seq, Dz.e_next, Dz.e_brk, Dz.e_cont, Dz.e_drop, Dz.e_ifS, Dz.e_asg, Dz.e_par, Dz.e_ret, Dz.e_retN, Dz.e_for, Dz.e_run1, Dz.e_run2, Dz.e_run3, Dz.e_run4, Dz.e_run5, Dz.e_run6, Dz.e_run7, Dz.e_run8, Dz.e_rep0, Dz.e_rep1, Dz.e_rep2, Dz.e_rep3, Dz.e_rep4, Dz.e_rep5, Dz.e_rep6, Dz.e_rep7, Dz.e_rep8, Dz.e_rep9, Dz.e_rep10, Dz.e_rep11, Dz.e_rep12, Dz.e_rep13, Dz.e_rep14, Dz.e_rep15, Dz.e_rep16, Dz.e_rep17, Dz.e_rep18, Dz.e_rep19, Dz.e_rep20, Dz.e_rep21, Dz.e_rep22, Dz.e_rep23, Dz.e_rep24, Dz.e_rep25, Dz.e_v0, Dz.e_s0, Dz.e_v1, Dz.e_s1, Dz.e_v2, Dz.e_s2, Dz.e_v3, Dz.e_s3, Dz.e_v4, Dz.e_s4, Dz.e_v5, Dz.e_s5, Dz.e_v6, Dz.e_s6, Dz.e_v7, Dz.e_s7, Dz.e_v8, Dz.e_s8, Dz.e_v9, Dz.e_s9, Dz.e_v10, Dz.e_s10, Dz.e_v11, Dz.e_s11, Dz.e_v12, Dz.e_s12, Dz.e_v13, Dz.e_s13, Dz.e_v14, Dz.e_s14, Dz.e_v15, Dz.e_s15, Dz.e_v16, Dz.e_s16, Dz.e_v17, Dz.e_s17, Dz.e_v18, Dz.e_s18, Dz.e_v19, Dz.e_s19, Dz.e_v20, Dz.e_s20, Dz.e_v21, Dz.e_s21, Dz.e_v22, Dz.e_s22, Dz.e_v23, Dz.e_s23, Dz.e_v24, Dz.e_s24, Dz.e_v25, Dz.e_s25, Dz.e_c, Dz.e_bin, Dz.e_un, Dz.e_test, Dz.e_tru, Dz.e_and, Dz.e_or, Dz.e_not, Dz.e_yes, Dz.e_andV, Dz.e_orV, Dz.e_notV, Dz.e_orT, Dz.e_andT, Dz.e_if, Dz.e_nil, Dz.e_cons, Dz.e_tup, Dz.e_lst, Dz.e_call, Dz.e_fn, Dz.e_chain, Dz.e_noP, Dz.e_part, Dz.e_sl, Dz.e_m1, Dz.e_m0, Dz.e_gv, Dz.e_gt, Dz.e_gc, Dz.e_gn, Dz.e_lc, Dz.e_w0, Dz.e_w1, Dz.e_list, Dz.e_tupI, Dz.e_strI, Dz.tru_bl, Dz.tru_int, Dz.tru_lst, Dz.tru_tup, Dz.tru_str, Dz.len_lst, Dz.len_tup, Dz.len_str, Dz.add_int', Dz.sub_int', Dz.lt_int', Dz.le_int', Dz.gt_int', Dz.ge_int', Dz.eq_int', Dz.ne_int', Dz.eq_str', Dz.ne_str', Dz.asBl_bl, Dz.asStr_str, Dz.asInt_int, Dz.asLst_lst, Dz.asTup_tup, Dz.add_str', Dz.add_lst', Dz.add_tup', Dz.mul_int', Dz.mul_str', Dz.mod_int'', Dz.div_int', Dz.ix_lst', Dz.ix_tup', Dz.ix_str', Dz.sl_lst', Dz.sl_tup', Dz.sl_str', Dz.neg_int', Dz.at0, Dz.at1, Dz.at2, Dz.at3, Dz.at4, Dz.at5, Dz.at6, Dz.at7, Dz.int_int', Dz.int_bl', Dz.tupF_lst, Dz.tupF_tup, Dz.lstF_lst, Dz.lstF_tup, Dz.is_bl', Dz.not_bl', Dz.take_eq, Dz.some_some, Dz.two_eq, List.length_cons, List.length_nil, List.map_cons, List.map_nil, List.append_nil, List.cons_append, List.nil_append, Nat.reduceAdd, Nat.reduceSub, Nat.reduceLeDiff, Nat.zero_add, Int.toNat_natCast, if_true, if_false, Bool.false_eq_true, Bool.not_true, Bool.not_false, true_and, and_true, ite_true, ite_false, Dz.e_fld, Dz.obj_f, Dz.e_meth, Dz.is_obj, Dz.e_make, Dz.e_own1, Dz.e_ownIn, Dz.is_c, Dz.e_star, Dz.sq_lst, Dz.sq_tup, Dz.isL_lst, Dz.e_zip2, Dz.e_enum, Dz.e_sortSet, Dz.own_own, Dz.e_sown, Dz.e_sapp, Dz.e_sput, Dz.e_sins, Dz.e_sext, Dz.e_sfrz, Dz.e_ixo, Dz.e_truo, Dz.slf_slf, Dz.e_sslf, Dz.e_mslf, Dz.e_runI2, Dz.max2, Dz.min2, Dz.e_not, Dz.e_isiT, Dz.isi_lst_lt, Dz.isi_tup_lt, List.getElem?_cons_zero, List.getElem?_cons_succ, isi_non_int, isi_non_bool, isi_non_str, isi_non_tuple, isi_non_list, isi_non_dict, isi_bl_int, isi_bl_bool, isi_bl_str, isi_bl_tuple, isi_bl_list, isi_bl_dict, isi_int_int, isi_int_bool, isi_int_str, isi_int_tuple, isi_int_list, isi_int_dict, isi_str_int, isi_str_bool, isi_str_str, isi_str_tuple, isi_str_list, isi_str_dict, isi_tup_int, isi_tup_bool, isi_tup_str, isi_tup_tuple, isi_tup_list, isi_tup_dict, isi_lst_int, isi_lst_bool, isi_lst_str, isi_lst_tuple, isi_lst_list, isi_lst_dict, isi_dic_int, isi_dic_bool, isi_dic_str, isi_dic_tuple, isi_dic_list, isi_dic_dict]
  refine ⟨by decide, ?_⟩
  unfold Dz.forM
  simp -implicitDefEqProofs only [Dz.e_rng1, Dz.e_rngQ, Dz.e_seq, Dz.e_next, Dz.e_brk, Dz.e_cont, Dz.e_drop, Dz.e_ifS, Dz.e_asg, Dz.e_par, Dz.e_ret, Dz.e_retN, Dz.e_for, Dz.e_run1, Dz.e_run2, Dz.e_run3, Dz.e_run4, Dz.e_run5, Dz.e_run6, Dz.e_run7, Dz.e_run8, Dz.e_rep0, Dz.e_rep1, Dz.e_rep2, Dz.e_rep3, Dz.e_rep4, Dz.e_rep5, Dz.e_rep6, Dz.e_rep7, Dz.e_rep8, Dz.e_rep9, Dz.e_rep10, Dz.e_rep11, Dz.e_rep12, Dz.e_rep13, Dz.e_rep14, Dz.e_rep15, Dz.e_rep16, Dz.e_rep17, Dz.e_rep18, Dz.e_rep19, Dz.e_rep20, Dz.e_rep21, Dz.e_rep22, Dz.e_rep23, Dz.e_rep24, Dz.e_rep25, Dz.e_v0, Dz.e_s0, Dz.e_v1, Dz.e_s1, Dz.e_v2, Dz.e_s2, Dz.e_v3, Dz.e_s3, Dz.e_v4, Dz.e_s4, Dz.e_v5, Dz.e_s5, Dz.e_v6, Dz.e_s6, Dz.e_v7, Dz.e_s7, Dz.e_v8, Dz.e_s8, Dz.e_v9, Dz.e_s9, Dz.e_v10, Dz.e_s10, Dz.e_v11, Dz.e_s11, Dz.e_v12, Dz.e_s12, Dz.e_v13, Dz.e_s13, Dz.e_v14, Dz.e_s14, Dz.e_v15, Dz.e_s15, Dz.e_v16, Dz.e_s16, Dz.e_v17, Dz.e_s17, Dz.e_v18, Dz.e_s18, Dz.e_v19, Dz.e_s19, Dz.e_v20, Dz.e_s20, Dz.e_v21, Dz.e_s21, Dz.e_v22, Dz.e_s22, Dz.e_v23, Dz.e_s23, Dz.e_v24, Dz.e_s24, Dz.e_v25, Dz.e_s25, Dz.e_c, Dz.e_bin, Dz.e_un, Dz.e_test, Dz.e_tru, Dz.e_and, Dz.e_or, Dz.e_not, Dz.e_yes, Dz.e_andV, Dz.e_orV, Dz.e_notV, Dz.e_orT, Dz.e_andT, Dz.e_if, Dz.e_nil, Dz.e_cons, Dz.e_tup, Dz.e_lst, Dz.e_call, Dz.e_fn, Dz.e_chain, Dz.e_noP, Dz.e_part, Dz.e_sl, Dz.e_m1, Dz.e_m0, Dz.e_gv, Dz.e_gt, Dz.e_gc, Dz.e_gn, Dz.e_lc, Dz.e_w0, Dz.e_w1, Dz.e_list, Dz.e_tupI, Dz.e_strI, Dz.tru_bl, Dz.tru_int, Dz.tru_lst, Dz.tru_tup, Dz.tru_str, Dz.len_lst, Dz.len_tup, Dz.len_str, Dz.add_int', Dz.sub_int', Dz.lt_int', Dz.le_int', Dz.gt_int', Dz.ge_int', Dz.eq_int', Dz.ne_int', Dz.eq_str', Dz.ne_str', Dz.asBl_bl, Dz.asStr_str, Dz.asInt_int, Dz.asLst_lst, Dz.asTup_tup, Dz.add_str', Dz.add_lst', Dz.add_tup', Dz.mul_int', Dz.mul_str', Dz.mod_int'', Dz.div_int', Dz.ix_lst', Dz.ix_tup', Dz.ix_str', Dz.sl_lst', Dz.sl_tup', Dz.sl_str', Dz.neg_int', Dz.at0, Dz.at1, Dz.at2, Dz.at3, Dz.at4, Dz.at5, Dz.at6, Dz.at7, Dz.int_int', Dz.int_bl', Dz.tupF_lst, Dz.tupF_tup, Dz.lstF_lst, Dz.lstF_tup, Dz.is_bl', Dz.not_bl', Dz.take_eq, Dz.some_some, Dz.two_eq, List.length_cons, List.length_nil, List.map_cons, List.map_nil, List.append_nil, List.cons_append, List.nil_append, Nat.reduceAdd, Nat.reduceSub, Nat.reduceLeDiff, Nat.zero_add, Int.toNat_natCast, if_true, if_false, Bool.false_eq_true, Bool.not_true, Bool.not_false, true_and, and_true, ite_true, ite_false, Dz.e_fld, Dz.obj_f, Dz.e_meth, Dz.is_obj, Dz.e_make, Dz.e_own1, Dz.e_ownIn, Dz.is_c, Dz.e_star, Dz.sq_lst, Dz.sq_tup, Dz.isL_lst, Dz.e_zip2, Dz.e_enum, Dz.e_sortSet, Dz.own_own, Dz.e_sown, Dz.e_sapp, Dz.e_sput, Dz.e_sins, Dz.e_sext, Dz.e_sfrz, Dz.e_ixo, Dz.e_truo, Dz.slf_slf, Dz.e_sslf, Dz.e_mslf, Dz.e_runI2, Dz.max2, Dz.min2, Dz.e_not, Dz.e_isiT, Dz.isi_lst_lt, Dz.isi_tup_lt, List.getElem?_cons_zero, List.getElem?_cons_succ, isi_non_int, isi_non_bool, isi_non_str, isi_non_tuple, isi_non_list, isi_non_dict, isi_bl_int, isi_bl_bool, isi_bl_str, isi_bl_tuple, isi_bl_list, isi_bl_dict, isi_int_int, isi_int_bool, isi_int_str, isi_int_tuple, isi_int_list, isi_int_dict, isi_str_int, isi_str_bool, isi_str_str, isi_str_tuple, isi_str_list, isi_str_dict, isi_tup_int, isi_tup_bool, isi_tup_str, isi_tup_tuple, isi_tup_list, isi_tup_dict, isi_lst_int, isi_lst_bool, isi_lst_str, isi_lst_tuple, isi_lst_list, isi_lst_dict, isi_dic_int, isi_dic_bool, isi_dic_str, isi_dic_tuple, isi_dic_list, isi_dic_dict]
  refine for_inv (fun rest ρ => ∃ (kept : List Int) (R : List (Int × Int)) (x3 x4 x5 : Slot), ρ = [Slot.val (.lst [.lst (sps S)]), .own (kept.map D.int), .val (.lst (sps S)), x3, x4, x5] ∧ rest = sps R ∧ (∀ k, (k ∈ kept ∨ k ∈ R.flatMap fun p => [p.1, p.2 + 1]) ↔ k ∈ points S) ∧ kept.length + 2 * R.length ≤ 1 + 2 * S.length) _ _ ⟨[0], S, .no, .no, .no, rfl, rfl, fun k => by unfold points; simp, by simp⟩ (fun ρ hρ => ?_) (fun d ds ρ N hI hN => ?_)
  · obtain ⟨kept, R, x3, x4, x5, rfl, e, k, l⟩ := hρ
    have : R = [] := by cases R with
      | nil => rfl
      | cons a R => cases e
    subst this
    unfold Dz.forM
    simp -implicitDefEqProofs only [Dz.e_rng1, Dz.e_rngQ, Dz.e_seq, Dz.e_next, Dz.e_brk, Dz.e_cont, Dz.e_drop, Dz.e_ifS, Dz.e_asg, Dz.e_par, Dz.e_ret, Dz.e_retN, Dz.e_for, Dz.e_run1, Dz.e_run2, Dz.e_run3, Dz.e_run4, Dz.e_run5, Dz.e_run6, Dz.e_run7, Dz.e_run8, Dz.e_rep0, Dz.e_rep1, Dz.e_rep2, Dz.e_rep3, Dz.e_rep4, Dz.e_rep5, Dz.e_rep6, Dz.e_rep7, Dz.e_rep8, Dz.e_rep9, Dz.e_rep10, Dz.e_rep11, Dz.e_rep12, Dz.e_rep13, Dz.e_rep14, Dz.e_rep15, Dz.e_rep16, Dz.e_rep17, Dz.e_rep18, Dz.e_rep19, Dz.e_rep20, Dz.e_rep21, Dz.e_rep22, Dz.e_rep23, Dz.e_rep24, Dz.e_rep25, Dz.e_v0, Dz.e_s0, Dz.e_v1, Dz.e_s1, Dz.e_v2, Dz.e_s2, Dz.e_v3, Dz.e_s3, Dz.e_v4, Dz.e_s4, Dz.e_v5, Dz.e_s5, Dz.e_v6, Dz.e_s6, Dz.e_v7, Dz.e_s7, Dz.e_v8, Dz.e_s8, Dz.e_v9, Dz.e_s9, Dz.e_v10, Dz.e_s10, Dz.e_v11, Dz.e_s11, Dz.e_v12, Dz.e_s12, Dz.e_v13, Dz.e_s13, Dz.e_v14, Dz.e_s14, Dz.e_v15, Dz.e_s15, Dz.e_v16, Dz.e_s16, Dz.e_v17, Dz.e_s17, Dz.e_v18, Dz.e_s18, Dz.e_v19, Dz.e_s19, Dz.e_v20, Dz.e_s20, Dz.e_v21, Dz.e_s21, Dz.e_v22, Dz.e_s22, Dz.e_v23, Dz.e_s23, Dz.e_v24, Dz.e_s24, Dz.e_v25, Dz.e_s25, Dz.e_c, Dz.e_bin, Dz.e_un, Dz.e_test, Dz.e_tru, Dz.e_and, Dz.e_or, Dz.e_not, Dz.e_yes, Dz.e_andV, Dz.e_orV, Dz.e_notV, Dz.e_orT, Dz.e_andT, Dz.e_if, Dz.e_nil, Dz.e_cons, Dz.e_tup, Dz.e_lst, Dz.e_call, Dz.e_fn, Dz.e_chain, Dz.e_noP, Dz.e_part, Dz.e_sl, Dz.e_m1, Dz.e_m0, Dz.e_gv, Dz.e_gt, Dz.e_gc, Dz.e_gn, Dz.e_lc, Dz.e_w0, Dz.e_w1, Dz.e_list, Dz.e_tupI, Dz.e_strI, Dz.tru_bl, Dz.tru_int, Dz.tru_lst, Dz.tru_tup, Dz.tru_str, Dz.len_lst, Dz.len_tup, Dz.len_str, Dz.add_int', Dz.sub_int', Dz.lt_int', Dz.le_int', Dz.gt_int', Dz.ge_int', Dz.eq_int', Dz.ne_int', Dz.eq_str', Dz.ne_str', Dz.asBl_bl, Dz.asStr_str, Dz.asInt_int, Dz.asLst_lst, Dz.asTup_tup, Dz.add_str', Dz.add_lst', Dz.add_tup', Dz.mul_int', Dz.mul_str', Dz.mod_int'', Dz.div_int', Dz.ix_lst', Dz.ix_tup', Dz.ix_str', Dz.sl_lst', Dz.sl_tup', Dz.sl_str', Dz.neg_int', Dz.at0, Dz.at1, Dz.at2, Dz.at3, Dz.at4, Dz.at5, Dz.at6, Dz.at7, Dz.int_int', Dz.int_bl', Dz.tupF_lst, Dz.tupF_tup, Dz.lstF_lst, Dz.lstF_tup, Dz.is_bl', Dz.not_bl', Dz.take_eq, Dz.some_some, Dz.two_eq, List.length_cons, List.length_nil, List.map_cons, List.map_nil, List.append_nil, List.cons_append, List.nil_append, Nat.reduceAdd, Nat.reduceSub, Nat.reduceLeDiff, Nat.zero_add, Int.toNat_natCast, if_true, if_false, Bool.false_eq_true, Bool.not_true, Bool.not_false, true_and, and_true, ite_true, ite_false, Dz.e_fld, Dz.obj_f, Dz.e_meth, Dz.is_obj, Dz.e_make, Dz.e_own1, Dz.e_ownIn, Dz.is_c, Dz.e_star, Dz.sq_lst, Dz.sq_tup, Dz.isL_lst, Dz.e_zip2, Dz.e_enum, Dz.e_sortSet, Dz.own_own, Dz.e_sown, Dz.e_sapp, Dz.e_sput, Dz.e_sins, Dz.e_sext, Dz.e_sfrz, Dz.e_ixo, Dz.e_truo, Dz.slf_slf, Dz.e_sslf, Dz.e_mslf, Dz.e_runI2, Dz.max2, Dz.min2, Dz.e_not, Dz.e_isiT, Dz.isi_lst_lt, Dz.isi_tup_lt, List.getElem?_cons_zero, List.getElem?_cons_succ, isi_non_int, isi_non_bool, isi_non_str, isi_non_tuple, isi_non_list, isi_non_dict, isi_bl_int, isi_bl_bool, isi_bl_str, isi_bl_tuple, isi_bl_list, isi_bl_dict, isi_int_int, isi_int_bool, isi_int_str, isi_int_tuple, isi_int_list, isi_int_dict, isi_str_int, isi_str_bool, isi_str_str, isi_str_tuple, isi_str_list, isi_str_dict, isi_tup_int, isi_tup_bool, isi_tup_str, isi_tup_tuple, isi_tup_list, isi_tup_dict, isi_lst_int, isi_lst_bool, isi_lst_str, isi_lst_tuple, isi_lst_list, isi_lst_dict, isi_dic_int, isi_dic_bool, isi_dic_str, isi_dic_tuple, isi_dic_list, isi_dic_dict]
    refine ⟨by rw [List.length_map]; exact size_le (by simp at l; omega), ?_⟩
    refine comp_filterL D.int D.int (fun i => decide (i ≤ top)) kept _ (fun a _ Q q => ?_) (fun a _ _ Q q => ?_) ?_
    · simp -implicitDefEqProofs only [Dz.e_rng1, Dz.e_rngQ, Dz.e_seq, Dz.e_next, Dz.e_brk, Dz.e_cont, Dz.e_drop, Dz.e_ifS, Dz.e_asg, Dz.e_par, Dz.e_ret, Dz.e_retN, Dz.e_for, Dz.e_run1, Dz.e_run2, Dz.e_run3, Dz.e_run4, Dz.e_run5, Dz.e_run6, Dz.e_run7, Dz.e_run8, Dz.e_rep0, Dz.e_rep1, Dz.e_rep2, Dz.e_rep3, Dz.e_rep4, Dz.e_rep5, Dz.e_rep6, Dz.e_rep7, Dz.e_rep8, Dz.e_rep9, Dz.e_rep10, Dz.e_rep11, Dz.e_rep12, Dz.e_rep13, Dz.e_rep14, Dz.e_rep15, Dz.e_rep16, Dz.e_rep17, Dz.e_rep18, Dz.e_rep19, Dz.e_rep20, Dz.e_rep21, Dz.e_rep22, Dz.e_rep23, Dz.e_rep24, Dz.e_rep25, Dz.e_v0, Dz.e_s0, Dz.e_v1, Dz.e_s1, Dz.e_v2, Dz.e_s2, Dz.e_v3, Dz.e_s3, Dz.e_v4, Dz.e_s4, Dz.e_v5, Dz.e_s5, Dz.e_v6, Dz.e_s6, Dz.e_v7, Dz.e_s7, Dz.e_v8, Dz.e_s8, Dz.e_v9, Dz.e_s9, Dz.e_v10, Dz.e_s10, Dz.e_v11, Dz.e_s11, Dz.e_v12, Dz.e_s12, Dz.e_v13, Dz.e_s13, Dz.e_v14, Dz.e_s14, Dz.e_v15, Dz.e_s15, Dz.e_v16, Dz.e_s16, Dz.e_v17, Dz.e_s17, Dz.e_v18, Dz.e_s18, Dz.e_v19, Dz.e_s19, Dz.e_v20, Dz.e_s20, Dz.e_v21, Dz.e_s21, Dz.e_v22, Dz.e_s22, Dz.e_v23, Dz.e_s23, Dz.e_v24, Dz.e_s24, Dz.e_v25, Dz.e_s25, Dz.e_c, Dz.e_bin, Dz.e_un, Dz.e_test, Dz.e_tru, Dz.e_and, Dz.e_or, Dz.e_not, Dz.e_yes, Dz.e_andV, Dz.e_orV, Dz.e_notV, Dz.e_orT, Dz.e_andT, Dz.e_if, Dz.e_nil, Dz.e_cons, Dz.e_tup, Dz.e_lst, Dz.e_call, Dz.e_fn, Dz.e_chain, Dz.e_noP, Dz.e_part, Dz.e_sl, Dz.e_m1, Dz.e_m0, Dz.e_gv, Dz.e_gt, Dz.e_gc, Dz.e_gn, Dz.e_lc, Dz.e_w0, Dz.e_w1, Dz.e_list, Dz.e_tupI, Dz.e_strI, Dz.tru_bl, Dz.tru_int, Dz.tru_lst, Dz.tru_tup, Dz.tru_str, Dz.len_lst, Dz.len_tup, Dz.len_str, Dz.add_int', Dz.sub_int', Dz.lt_int', Dz.le_int', Dz.gt_int', Dz.ge_int', Dz.eq_int', Dz.ne_int', Dz.eq_str', Dz.ne_str', Dz.asBl_bl, Dz.asStr_str, Dz.asInt_int, Dz.asLst_lst, Dz.asTup_tup, Dz.add_str', Dz.add_lst', Dz.add_tup', Dz.mul_int', Dz.mul_str', Dz.mod_int'', Dz.div_int', Dz.ix_lst', Dz.ix_tup', Dz.ix_str', Dz.sl_lst', Dz.sl_tup', Dz.sl_str', Dz.neg_int', Dz.at0, Dz.at1, Dz.at2, Dz.at3, Dz.at4, Dz.at5, Dz.at6, Dz.at7, Dz.int_int', Dz.int_bl', Dz.tupF_lst, Dz.tupF_tup, Dz.lstF_lst, Dz.lstF_tup, Dz.is_bl', Dz.not_bl', Dz.take_eq, Dz.some_some, Dz.two_eq, List.length_cons, List.length_nil, List.map_cons, List.map_nil, List.append_nil, List.cons_append, List.nil_append, Nat.reduceAdd, Nat.reduceSub, Nat.reduceLeDiff, Nat.zero_add, Int.toNat_natCast, if_true, if_false, Bool.false_eq_true, Bool.not_true, Bool.not_false, true_and, and_true, ite_true, ite_false, Dz.e_fld, Dz.obj_f, Dz.e_meth, Dz.is_obj, Dz.e_make, Dz.e_own1, Dz.e_ownIn, Dz.is_c, Dz.e_star, Dz.sq_lst, Dz.sq_tup, Dz.isL_lst, Dz.e_zip2, Dz.e_enum, Dz.e_sortSet, Dz.own_own, Dz.e_sown, Dz.e_sapp, Dz.e_sput, Dz.e_sins, Dz.e_sext, Dz.e_sfrz, Dz.e_ixo, Dz.e_truo, Dz.slf_slf, Dz.e_sslf, Dz.e_mslf, Dz.e_runI2, Dz.max2, Dz.min2, Dz.e_not, Dz.e_isiT, Dz.isi_lst_lt, Dz.isi_tup_lt, List.getElem?_cons_zero, List.getElem?_cons_succ, isi_non_int, isi_non_bool, isi_non_str, isi_non_tuple, isi_non_list, isi_non_dict, isi_bl_int, isi_bl_bool, isi_bl_str, isi_bl_tuple, isi_bl_list, isi_bl_dict, isi_int_int, isi_int_bool, isi_int_str, isi_int_tuple, isi_int_list, isi_int_dict, isi_str_int, isi_str_bool, isi_str_str, isi_str_tuple, isi_str_list, isi_str_dict, isi_tup_int, isi_tup_bool, isi_tup_str, isi_tup_tuple, isi_tup_list, isi_tup_dict, isi_lst_int, isi_lst_bool, isi_lst_str, isi_lst_tuple, isi_lst_list, isi_lst_dict, isi_dic_int, isi_dic_bool, isi_dic_str, isi_dic_tuple, isi_dic_list, isi_dic_dict, pow9]
      exact q
    · simp -implicitDefEqProofs only [Dz.e_rng1, Dz.e_rngQ, Dz.e_seq, Dz.e_next, Dz.e_brk, Dz.e_cont, Dz.e_drop, Dz.e_ifS, Dz.e_asg, Dz.e_par, Dz.e_ret, Dz.e_retN, Dz.e_for, Dz.e_run1, Dz.e_run2, Dz.e_run3, Dz.e_run4, Dz.e_run5, Dz.e_run6, Dz.e_run7, Dz.e_run8, Dz.e_rep0, Dz.e_rep1, Dz.e_rep2, Dz.e_rep3, Dz.e_rep4, Dz.e_rep5, Dz.e_rep6, Dz.e_rep7, Dz.e_rep8, Dz.e_rep9, Dz.e_rep10, Dz.e_rep11, Dz.e_rep12, Dz.e_rep13, Dz.e_rep14, Dz.e_rep15, Dz.e_rep16, Dz.e_rep17, Dz.e_rep18, Dz.e_rep19, Dz.e_rep20, Dz.e_rep21, Dz.e_rep22, Dz.e_rep23, Dz.e_rep24, Dz.e_rep25, Dz.e_v0, Dz.e_s0, Dz.e_v1, Dz.e_s1, Dz.e_v2, Dz.e_s2, Dz.e_v3, Dz.e_s3, Dz.e_v4, Dz.e_s4, Dz.e_v5, Dz.e_s5, Dz.e_v6, Dz.e_s6, Dz.e_v7, Dz.e_s7, Dz.e_v8, Dz.e_s8, Dz.e_v9, Dz.e_s9, Dz.e_v10, Dz.e_s10, Dz.e_v11, Dz.e_s11, Dz.e_v12, Dz.e_s12, Dz.e_v13, Dz.e_s13, Dz.e_v14, Dz.e_s14, Dz.e_v15, Dz.e_s15, Dz.e_v16, Dz.e_s16, Dz.e_v17, Dz.e_s17, Dz.e_v18, Dz.e_s18, Dz.e_v19, Dz.e_s19, Dz.e_v20, Dz.e_s20, Dz.e_v21, Dz.e_s21, Dz.e_v22, Dz.e_s22, Dz.e_v23, Dz.e_s23, Dz.e_v24, Dz.e_s24, Dz.e_v25, Dz.e_s25, Dz.e_c, Dz.e_bin, Dz.e_un, Dz.e_test, Dz.e_tru, Dz.e_and, Dz.e_or, Dz.e_not, Dz.e_yes, Dz.e_andV, Dz.e_orV, Dz.e_notV, Dz.e_orT, Dz.e_andT, Dz.e_if, Dz.e_nil, Dz.e_cons, Dz.e_tup, Dz.e_lst, Dz.e_call, Dz.e_fn, Dz.e_chain, Dz.e_noP, Dz.e_part, Dz.e_sl, Dz.e_m1, Dz.e_m0, Dz.e_gv, Dz.e_gt, Dz.e_gc, Dz.e_gn, Dz.e_lc, Dz.e_w0, Dz.e_w1, Dz.e_list, Dz.e_tupI, Dz.e_strI, Dz.tru_bl, Dz.tru_int, Dz.tru_lst, Dz.tru_tup, Dz.tru_str, Dz.len_lst, Dz.len_tup, Dz.len_str, Dz.add_int', Dz.sub_int', Dz.lt_int', Dz.le_int', Dz.gt_int', Dz.ge_int', Dz.eq_int', Dz.ne_int', Dz.eq_str', Dz.ne_str', Dz.asBl_bl, Dz.asStr_str, Dz.asInt_int, Dz.asLst_lst, Dz.asTup_tup, Dz.add_str', Dz.add_lst', Dz.add_tup', Dz.mul_int', Dz.mul_str', Dz.mod_int'', Dz.div_int', Dz.ix_lst', Dz.ix_tup', Dz.ix_str', Dz.sl_lst', Dz.sl_tup', Dz.sl_str', Dz.neg_int', Dz.at0, Dz.at1, Dz.at2, Dz.at3, Dz.at4, Dz.at5, Dz.at6, Dz.at7, Dz.int_int', Dz.int_bl', Dz.tupF_lst, Dz.tupF_tup, Dz.lstF_lst, Dz.lstF_tup, Dz.is_bl', Dz.not_bl', Dz.take_eq, Dz.some_some, Dz.two_eq, List.length_cons, List.length_nil, List.map_cons, List.map_nil, List.append_nil, List.cons_append, List.nil_append, Nat.reduceAdd, Nat.reduceSub, Nat.reduceLeDiff, Nat.zero_add, Int.toNat_natCast, if_true, if_false, Bool.false_eq_true, Bool.not_true, Bool.not_false, true_and, and_true, ite_true, ite_false, Dz.e_fld, Dz.obj_f, Dz.e_meth, Dz.is_obj, Dz.e_make, Dz.e_own1, Dz.e_ownIn, Dz.is_c, Dz.e_star, Dz.sq_lst, Dz.sq_tup, Dz.isL_lst, Dz.e_zip2, Dz.e_enum, Dz.e_sortSet, Dz.own_own, Dz.e_sown, Dz.e_sapp, Dz.e_sput, Dz.e_sins, Dz.e_sext, Dz.e_sfrz, Dz.e_ixo, Dz.e_truo, Dz.slf_slf, Dz.e_sslf, Dz.e_mslf, Dz.e_runI2, Dz.max2, Dz.min2, Dz.e_not, Dz.e_isiT, Dz.isi_lst_lt, Dz.isi_tup_lt, List.getElem?_cons_zero, List.getElem?_cons_succ, isi_non_int, isi_non_bool, isi_non_str, isi_non_tuple, isi_non_list, isi_non_dict, isi_bl_int, isi_bl_bool, isi_bl_str, isi_bl_tuple, isi_bl_list, isi_bl_dict, isi_int_int, isi_int_bool, isi_int_str, isi_int_tuple, isi_int_list, isi_int_dict, isi_str_int, isi_str_bool, isi_str_str, isi_str_tuple, isi_str_list, isi_str_dict, isi_tup_int, isi_tup_bool, isi_tup_str, isi_tup_tuple, isi_tup_list, isi_tup_dict, isi_lst_int, isi_lst_bool, isi_lst_str, isi_lst_tuple, isi_lst_list, isi_lst_dict, isi_dic_int, isi_dic_bool, isi_dic_str, isi_dic_tuple, isi_dic_list, isi_dic_dict]
      exact q
    · rw [intsOf_map]
      refine ⟨?_, fun ms m1 m2 => h ms m1 fun k' => ?_⟩
      · have := List.length_filter_le (fun i => decide (i ≤ top)) kept
        simp at l
        omega
      · rw [m2, List.mem_filter, ← k k']
        simp
  · obtain ⟨kept, R, x3, x4, x5, rfl, e, k, l⟩ := hI
    match R, e, k, l with
    | p :: R, e, k, l =>
      rw [sps_cons] at e
      cases e
      unfold pr
      simp -implicitDefEqProofs only [Dz.e_rng1, Dz.e_rngQ, Dz.e_seq, Dz.e_next, Dz.e_brk, Dz.e_cont, Dz.e_drop, Dz.e_ifS, Dz.e_asg, Dz.e_par, Dz.e_ret, Dz.e_retN, Dz.e_for, Dz.e_run1, Dz.e_run2, Dz.e_run3, Dz.e_run4, Dz.e_run5, Dz.e_run6, Dz.e_run7, Dz.e_run8, Dz.e_rep0, Dz.e_rep1, Dz.e_rep2, Dz.e_rep3, Dz.e_rep4, Dz.e_rep5, Dz.e_rep6, Dz.e_rep7, Dz.e_rep8, Dz.e_rep9, Dz.e_rep10, Dz.e_rep11, Dz.e_rep12, Dz.e_rep13, Dz.e_rep14, Dz.e_rep15, Dz.e_rep16, Dz.e_rep17, Dz.e_rep18, Dz.e_rep19, Dz.e_rep20, Dz.e_rep21, Dz.e_rep22, Dz.e_rep23, Dz.e_rep24, Dz.e_rep25, Dz.e_v0, Dz.e_s0, Dz.e_v1, Dz.e_s1, Dz.e_v2, Dz.e_s2, Dz.e_v3, Dz.e_s3, Dz.e_v4, Dz.e_s4, Dz.e_v5, Dz.e_s5, Dz.e_v6, Dz.e_s6, Dz.e_v7, Dz.e_s7, Dz.e_v8, Dz.e_s8, Dz.e_v9, Dz.e_s9, Dz.e_v10, Dz.e_s10, Dz.e_v11, Dz.e_s11, Dz.e_v12, Dz.e_s12, Dz.e_v13, Dz.e_s13, Dz.e_v14, Dz.e_s14, Dz.e_v15, Dz.e_s15, Dz.e_v16, Dz.e_s16, Dz.e_v17, Dz.e_s17, Dz.e_v18, Dz.e_s18, Dz.e_v19, Dz.e_s19, Dz.e_v20, Dz.e_s20, Dz.e_v21, Dz.e_s21, Dz.e_v22, Dz.e_s22, Dz.e_v23, Dz.e_s23, Dz.e_v24, Dz.e_s24, Dz.e_v25, Dz.e_s25, Dz.e_c, Dz.e_bin, Dz.e_un, Dz.e_test, Dz.e_tru, Dz.e_and, Dz.e_or, Dz.e_not, Dz.e_yes, Dz.e_andV, Dz.e_orV, Dz.e_notV, Dz.e_orT, Dz.e_andT, Dz.e_if, Dz.e_nil, Dz.e_cons, Dz.e_tup, Dz.e_lst, Dz.e_call, Dz.e_fn, Dz.e_chain, Dz.e_noP, Dz.e_part, Dz.e_sl, Dz.e_m1, Dz.e_m0, Dz.e_gv, Dz.e_gt, Dz.e_gc, Dz.e_gn, Dz.e_lc, Dz.e_w0, Dz.e_w1, Dz.e_list, Dz.e_tupI, Dz.e_strI, Dz.tru_bl, Dz.tru_int, Dz.tru_lst, Dz.tru_tup, Dz.tru_str, Dz.len_lst, Dz.len_tup, Dz.len_str, Dz.add_int', Dz.sub_int', Dz.lt_int', Dz.le_int', Dz.gt_int', Dz.ge_int', Dz.eq_int', Dz.ne_int', Dz.eq_str', Dz.ne_str', Dz.asBl_bl, Dz.asStr_str, Dz.asInt_int, Dz.asLst_lst, Dz.asTup_tup, Dz.add_str', Dz.add_lst', Dz.add_tup', Dz.mul_int', Dz.mul_str', Dz.mod_int'', Dz.div_int', Dz.ix_lst', Dz.ix_tup', Dz.ix_str', Dz.sl_lst', Dz.sl_tup', Dz.sl_str', Dz.neg_int', Dz.at0, Dz.at1, Dz.at2, Dz.at3, Dz.at4, Dz.at5, Dz.at6, Dz.at7, Dz.int_int', Dz.int_bl', Dz.tupF_lst, Dz.tupF_tup, Dz.lstF_lst, Dz.lstF_tup, Dz.is_bl', Dz.not_bl', Dz.take_eq, Dz.some_some, Dz.two_eq, List.length_cons, List.length_nil, List.map_cons, List.map_nil, List.append_nil, List.cons_append, List.nil_append, Nat.reduceAdd, Nat.reduceSub, Nat.reduceLeDiff, Nat.zero_add, Int.toNat_natCast, if_true, if_false, Bool.false_eq_true, Bool.not_true, Bool.not_false, true_and, and_true, ite_true, ite_false, Dz.e_fld, Dz.obj_f, Dz.e_meth, Dz.is_obj, Dz.e_make, Dz.e_own1, Dz.e_ownIn, Dz.is_c, Dz.e_star, Dz.sq_lst, Dz.sq_tup, Dz.isL_lst, Dz.e_zip2, Dz.e_enum, Dz.e_sortSet, Dz.own_own, Dz.e_sown, Dz.e_sapp, Dz.e_sput, Dz.e_sins, Dz.e_sext, Dz.e_sfrz, Dz.e_ixo, Dz.e_truo, Dz.slf_slf, Dz.e_sslf, Dz.e_mslf, Dz.e_runI2, Dz.max2, Dz.min2, Dz.e_not, Dz.e_isiT, Dz.isi_lst_lt, Dz.isi_tup_lt, List.getElem?_cons_zero, List.getElem?_cons_succ, isi_non_int, isi_non_bool, isi_non_str, isi_non_tuple, isi_non_list, isi_non_dict, isi_bl_int, isi_bl_bool, isi_bl_str, isi_bl_tuple, isi_bl_list, isi_bl_dict, isi_int_int, isi_int_bool, isi_int_str, isi_int_tuple, isi_int_list, isi_int_dict, isi_str_int, isi_str_bool, isi_str_str, isi_str_tuple, isi_str_list, isi_str_dict, isi_tup_int, isi_tup_bool, isi_tup_str, isi_tup_tuple, isi_tup_list, isi_tup_dict, isi_lst_int, isi_lst_bool, isi_lst_str, isi_lst_tuple, isi_lst_list, isi_lst_dict, isi_dic_int, isi_dic_bool, isi_dic_str, isi_dic_tuple, isi_dic_list, isi_dic_dict]
      simp only [List.length_cons] at l
      refine ⟨by decide, by rw [List.length_map]; exact size_le (by omega), ?_⟩
      refine hN _ ⟨kept ++ [p.1, p.2 + 1], R, .val (.int p.1), .val (.int p.2), x5, ?_, rfl, fun k' => ?_, by simp; omega⟩
      · rw [List.map_append]; rfl
      · rw [← k k']
        simp [or_assoc]
theorem later_spec (c : Cs) (S : List (Int × Int)) (hl : S.length ≤ 20) (ms : List Int) (hm : ∀ k, k ∈ ms ↔ k ∈ points S ∧ k ≤ top) (hml : ms.length ≤ 1000) (d : Int) (wanted : Bool) (Q : D → Prop) (h : ∀ r, First (fun x => has S x == wanted) d r → Q (oD r)) : m__law_later c [.lst (sps S), .lst (ms.map D.int), .int d, .bl wanted] Q := by
  unfold m__law_later
  simp -implicitDefEqProofs only [Dz.e_rng1, Dz.e_rngQ, Dz.e_seq, Dz.e_next, Dz.e_brk, Dz.e_cont, Dz.e_drop, Dz.e_ifS, Dz.e_asg, Dz.e_par, Dz.e_ret, Dz.e_retN, Dz.e_for, Dz.e_run1, Dz.e_run2, Dz.e_run3, Dz.e_run4, Dz.e_run5, Dz.e_run6, Dz.e_run7, Dz.e_run8, Dz.e_rep0, Dz.e_rep1, Dz.e_rep2, Dz.e_rep3, Dz.e_rep4, Dz.e_rep5, Dz.e_rep6, Dz.e_rep7, Dz.e_rep8, Dz.e_rep9, Dz.e_rep10, Dz.e_rep11, Dz.e_rep12, Dz.e_rep13, Dz.e_rep14, Dz.e_rep15, Dz.e_rep16, Dz.e_rep17, Dz.e_rep18, Dz.e_rep19, Dz.e_rep20, Dz.e_rep21, Dz.e_rep22, Dz.e_rep23, Dz.e_rep24, Dz.e_rep25, Dz.e_v0, Dz.e_s0, Dz.e_v1, Dz.e_s1, Dz.e_v2, Dz.e_s2, Dz.e_v3, Dz.e_s3, Dz.e_v4, Dz.e_s4, Dz.e_v5, Dz.e_s5, Dz.e_v6, Dz.e_s6, Dz.e_v7, Dz.e_s7, Dz.e_v8, Dz.e_s8, Dz.e_v9, Dz.e_s9, Dz.e_v10, Dz.e_s10, Dz.e_v11, Dz.e_s11, Dz.e_v12, Dz.e_s12, Dz.e_v13, Dz.e_s13, Dz.e_v14, Dz.e_s14, Dz.e_v15, Dz.e_s15, Dz.e_v16, Dz.e_s16, Dz.e_v17, Dz.e_s17, Dz.e_v18, Dz.e_s18, Dz.e_v19, Dz.e_s19, Dz.e_v20, Dz.e_s20, Dz.e_v21, Dz.e_s21, Dz.e_v22, Dz.e_s22, Dz.e_v23, Dz.e_s23, Dz.e_v24, Dz.e_s24, Dz.e_v25, Dz.e_s25, Dz.e_c, Dz.e_bin, Dz.e_un, Dz.e_test, Dz.e_tru, Dz.e_and, Dz.e_or, Dz.e_not, Dz.e_yes, Dz.e_andV, Dz.e_orV, Dz.e_notV, Dz.e_orT, Dz.e_andT, Dz.e_if, Dz.e_nil, Dz.e_cons, Dz.e_tup, Dz.e_lst, Dz.e_call, Dz.e_fn, Dz.e_chain, Dz.e_noP, Dz.e_part, Dz.e_sl, Dz.e_m1, Dz.e_m0, Dz.e_gv, Dz.e_gt, Dz.e_gc, Dz.e_gn, Dz.e_lc, Dz.e_w0, Dz.e_w1, Dz.e_list, Dz.e_tupI, Dz.e_strI, Dz.tru_bl, Dz.tru_int, Dz.tru_lst, Dz.tru_tup, Dz.tru_str, Dz.len_lst, Dz.len_tup, Dz.len_str, Dz.add_int', Dz.sub_int', Dz.lt_int', Dz.le_int', Dz.gt_int', Dz.ge_int', Dz.eq_int', Dz.ne_int', Dz.eq_str', Dz.ne_str', Dz.asBl_bl, Dz.asStr_str, Dz.asInt_int, Dz.asLst_lst, Dz.asTup_tup, Dz.add_str', Dz.add_lst', Dz.add_tup', Dz.mul_int', Dz.mul_str', Dz.mod_int'', Dz.div_int', Dz.ix_lst', Dz.ix_tup', Dz.ix_str', Dz.sl_lst', Dz.sl_tup', Dz.sl_str', Dz.neg_int', Dz.at0, Dz.at1, Dz.at2, Dz.at3, Dz.at4, Dz.at5, Dz.at6, Dz.at7, Dz.int_int', Dz.int_bl', Dz.tupF_lst, Dz.tupF_tup, Dz.lstF_lst, Dz.lstF_tup, Dz.is_bl', Dz.not_bl', Dz.take_eq, Dz.some_some, Dz.two_eq, List.length_cons, List.length_nil, List.map_cons, List.map_nil, List.append_nil, List.cons_append, List.nil_append, Nat.reduceAdd, Nat.reduceSub, Nat.reduceLeDiff, Nat.zero_add, Int.toNat_natCast, if_true, if_false, Bool.false_eq_true, Bool.not_true, Bool.not_false, true_and, and_true, ite_true, ite_false, Dz.e_fld, Dz.obj_f, Dz.e_meth, Dz.is_obj, Dz.e_make, Dz.e_own1, Dz.e_ownIn, Dz.is_c, Dz.e_star, Dz.sq_lst, Dz.sq_tup, Dz.isL_lst, Dz.e_zip2, Dz.e_enum, Dz.e_sortSet, Dz.own_own, Dz.e_sown, Dz.e_sapp, Dz.e_sput, Dz.e_sins, Dz.e_sext, Dz.e_sfrz, Dz.e_ixo, Dz.e_truo, Dz.slf_slf, Dz.e_sslf, Dz.e_mslf, Dz.e_runI2, Dz.max2, Dz.min2, Dz.e_not, Dz.e_isiT, Dz.isi_lst_lt, Dz.isi_tup_lt, List.getElem?_cons_zero, List.getElem?_cons_succ, isi_non_int, isi_non_bool, isi_non_str, isi_non_tuple, isi_non_list, isi_non_dict, isi_bl_int, isi_bl_bool, isi_bl_str, isi_bl_tuple, isi_bl_list, isi_bl_dict, isi_int_int, isi_int_bool, isi_int_str, isi_int_tuple, isi_int_list, isi_int_dict, isi_str_int, isi_str_bool, isi_str_str, isi_str_tuple, isi_str_list, isi_str_dict, isi_tup_int, isi_tup_bool, isi_tup_str, isi_tup_tuple, isi_tup_list, isi_tup_dict, isi_lst_int, isi_lst_bool, isi_lst_str, isi_lst_tuple, isi_lst_list, isi_lst_dict, isi_dic_int, isi_dic_bool, isi_dic_str, isi_dic_tuple, isi_dic_list, isi_dic_dict]
  refine ⟨by decide, by rw [List.length_map]; exact size_le (by omega), by rw [List.length_map]; exact size_le (by omega), ?_⟩
  rw [show (D.int (d + 1) :: ms.map D.int) = ((d + 1) :: ms).map D.int from rfl]
  refine comp_genL D.int D.int (fun x => decide (d < x) && (decide (x ≤ top) && (has S x == wanted))) _ _ (fun x hx Q1 Q0 q => ?_) ?_
  · simp -implicitDefEqProofs only [Dz.e_rng1, Dz.e_rngQ, Dz.e_seq, Dz.e_next, Dz.e_brk, Dz.e_cont, Dz.e_drop, Dz.e_ifS, Dz.e_asg, Dz.e_par, Dz.e_ret, Dz.e_retN, Dz.e_for, Dz.e_run1, Dz.e_run2, Dz.e_run3, Dz.e_run4, Dz.e_run5, Dz.e_run6, Dz.e_run7, Dz.e_run8, Dz.e_rep0, Dz.e_rep1, Dz.e_rep2, Dz.e_rep3, Dz.e_rep4, Dz.e_rep5, Dz.e_rep6, Dz.e_rep7, Dz.e_rep8, Dz.e_rep9, Dz.e_rep10, Dz.e_rep11, Dz.e_rep12, Dz.e_rep13, Dz.e_rep14, Dz.e_rep15, Dz.e_rep16, Dz.e_rep17, Dz.e_rep18, Dz.e_rep19, Dz.e_rep20, Dz.e_rep21, Dz.e_rep22, Dz.e_rep23, Dz.e_rep24, Dz.e_rep25, Dz.e_v0, Dz.e_s0, Dz.e_v1, Dz.e_s1, Dz.e_v2, Dz.e_s2, Dz.e_v3, Dz.e_s3, Dz.e_v4, Dz.e_s4, Dz.e_v5, Dz.e_s5, Dz.e_v6, Dz.e_s6, Dz.e_v7, Dz.e_s7, Dz.e_v8, Dz.e_s8, Dz.e_v9, Dz.e_s9, Dz.e_v10, Dz.e_s10, Dz.e_v11, Dz.e_s11, Dz.e_v12, Dz.e_s12, Dz.e_v13, Dz.e_s13, Dz.e_v14, Dz.e_s14, Dz.e_v15, Dz.e_s15, Dz.e_v16, Dz.e_s16, Dz.e_v17, Dz.e_s17, Dz.e_v18, Dz.e_s18, Dz.e_v19, Dz.e_s19, Dz.e_v20, Dz.e_s20, Dz.e_v21, Dz.e_s21, Dz.e_v22, Dz.e_s22, Dz.e_v23, Dz.e_s23, Dz.e_v24, Dz.e_s24, Dz.e_v25, Dz.e_s25, Dz.e_c, Dz.e_bin, Dz.e_un, Dz.e_test, Dz.e_tru, Dz.e_and, Dz.e_or, Dz.e_not, Dz.e_yes, Dz.e_andV, Dz.e_orV, Dz.e_notV, Dz.e_orT, Dz.e_andT, Dz.e_if, Dz.e_nil, Dz.e_cons, Dz.e_tup, Dz.e_lst, Dz.e_call, Dz.e_fn, Dz.e_chain, Dz.e_noP, Dz.e_part, Dz.e_sl, Dz.e_m1, Dz.e_m0, Dz.e_gv, Dz.e_gt, Dz.e_gc, Dz.e_gn, Dz.e_lc, Dz.e_w0, Dz.e_w1, Dz.e_list, Dz.e_tupI, Dz.e_strI, Dz.tru_bl, Dz.tru_int, Dz.tru_lst, Dz.tru_tup, Dz.tru_str, Dz.len_lst, Dz.len_tup, Dz.len_str, Dz.add_int', Dz.sub_int', Dz.lt_int', Dz.le_int', Dz.gt_int', Dz.ge_int', Dz.eq_int', Dz.ne_int', Dz.eq_str', Dz.ne_str', Dz.asBl_bl, Dz.asStr_str, Dz.asInt_int, Dz.asLst_lst, Dz.asTup_tup, Dz.add_str', Dz.add_lst', Dz.add_tup', Dz.mul_int', Dz.mul_str', Dz.mod_int'', Dz.div_int', Dz.ix_lst', Dz.ix_tup', Dz.ix_str', Dz.sl_lst', Dz.sl_tup', Dz.sl_str', Dz.neg_int', Dz.at0, Dz.at1, Dz.at2, Dz.at3, Dz.at4, Dz.at5, Dz.at6, Dz.at7, Dz.int_int', Dz.int_bl', Dz.tupF_lst, Dz.tupF_tup, Dz.lstF_lst, Dz.lstF_tup, Dz.is_bl', Dz.not_bl', Dz.take_eq, Dz.some_some, Dz.two_eq, List.length_cons, List.length_nil, List.map_cons, List.map_nil, List.append_nil, List.cons_append, List.nil_append, Nat.reduceAdd, Nat.reduceSub, Nat.reduceLeDiff, Nat.zero_add, Int.toNat_natCast, if_true, if_false, Bool.false_eq_true, Bool.not_true, Bool.not_false, true_and, and_true, ite_true, ite_false, Dz.e_fld, Dz.obj_f, Dz.e_meth, Dz.is_obj, Dz.e_make, Dz.e_own1, Dz.e_ownIn, Dz.is_c, Dz.e_star, Dz.sq_lst, Dz.sq_tup, Dz.isL_lst, Dz.e_zip2, Dz.e_enum, Dz.e_sortSet, Dz.own_own, Dz.e_sown, Dz.e_sapp, Dz.e_sput, Dz.e_sins, Dz.e_sext, Dz.e_sfrz, Dz.e_ixo, Dz.e_truo, Dz.slf_slf, Dz.e_sslf, Dz.e_mslf, Dz.e_runI2, Dz.max2, Dz.min2, Dz.e_not, Dz.e_isiT, Dz.isi_lst_lt, Dz.isi_tup_lt, List.getElem?_cons_zero, List.getElem?_cons_succ, isi_non_int, isi_non_bool, isi_non_str, isi_non_tuple, isi_non_list, isi_non_dict, isi_bl_int, isi_bl_bool, isi_bl_str, isi_bl_tuple, isi_bl_list, isi_bl_dict, isi_int_int, isi_int_bool, isi_int_str, isi_int_tuple, isi_int_list, isi_int_dict, isi_str_int, isi_str_bool, isi_str_str, isi_str_tuple, isi_str_list, isi_str_dict, isi_tup_int, isi_tup_bool, isi_tup_str, isi_tup_tuple, isi_tup_list, isi_tup_dict, isi_lst_int, isi_lst_bool, isi_lst_str, isi_lst_tuple, isi_lst_list, isi_lst_dict, isi_dic_int, isi_dic_bool, isi_dic_str, isi_dic_tuple, isi_dic_list, isi_dic_dict, pow9]
    by_cases h1 : d < x
    · rw [if_pos (decide_eq_true h1)]
      rw [decide_eq_true h1, Bool.true_and] at q
      by_cases h2 : x ≤ 1000000000
      · rw [if_pos (decide_eq_true h2)]
        rw [decide_eq_true (show x ≤ top from h2), Bool.true_and] at q
        refine hasday_spec c S (by omega) x _ ?_
        simp -implicitDefEqProofs only [Dz.e_rng1, Dz.e_rngQ, Dz.e_seq, Dz.e_next, Dz.e_brk, Dz.e_cont, Dz.e_drop, Dz.e_ifS, Dz.e_asg, Dz.e_par, Dz.e_ret, Dz.e_retN, Dz.e_for, Dz.e_run1, Dz.e_run2, Dz.e_run3, Dz.e_run4, Dz.e_run5, Dz.e_run6, Dz.e_run7, Dz.e_run8, Dz.e_rep0, Dz.e_rep1, Dz.e_rep2, Dz.e_rep3, Dz.e_rep4, Dz.e_rep5, Dz.e_rep6, Dz.e_rep7, Dz.e_rep8, Dz.e_rep9, Dz.e_rep10, Dz.e_rep11, Dz.e_rep12, Dz.e_rep13, Dz.e_rep14, Dz.e_rep15, Dz.e_rep16, Dz.e_rep17, Dz.e_rep18, Dz.e_rep19, Dz.e_rep20, Dz.e_rep21, Dz.e_rep22, Dz.e_rep23, Dz.e_rep24, Dz.e_rep25, Dz.e_v0, Dz.e_s0, Dz.e_v1, Dz.e_s1, Dz.e_v2, Dz.e_s2, Dz.e_v3, Dz.e_s3, Dz.e_v4, Dz.e_s4, Dz.e_v5, Dz.e_s5, Dz.e_v6, Dz.e_s6, Dz.e_v7, Dz.e_s7, Dz.e_v8, Dz.e_s8, Dz.e_v9, Dz.e_s9, Dz.e_v10, Dz.e_s10, Dz.e_v11, Dz.e_s11, Dz.e_v12, Dz.e_s12, Dz.e_v13, Dz.e_s13, Dz.e_v14, Dz.e_s14, Dz.e_v15, Dz.e_s15, Dz.e_v16, Dz.e_s16, Dz.e_v17, Dz.e_s17, Dz.e_v18, Dz.e_s18, Dz.e_v19, Dz.e_s19, Dz.e_v20, Dz.e_s20, Dz.e_v21, Dz.e_s21, Dz.e_v22, Dz.e_s22, Dz.e_v23, Dz.e_s23, Dz.e_v24, Dz.e_s24, Dz.e_v25, Dz.e_s25, Dz.e_c, Dz.e_bin, Dz.e_un, Dz.e_test, Dz.e_tru, Dz.e_and, Dz.e_or, Dz.e_not, Dz.e_yes, Dz.e_andV, Dz.e_orV, Dz.e_notV, Dz.e_orT, Dz.e_andT, Dz.e_if, Dz.e_nil, Dz.e_cons, Dz.e_tup, Dz.e_lst, Dz.e_call, Dz.e_fn, Dz.e_chain, Dz.e_noP, Dz.e_part, Dz.e_sl, Dz.e_m1, Dz.e_m0, Dz.e_gv, Dz.e_gt, Dz.e_gc, Dz.e_gn, Dz.e_lc, Dz.e_w0, Dz.e_w1, Dz.e_list, Dz.e_tupI, Dz.e_strI, Dz.tru_bl, Dz.tru_int, Dz.tru_lst, Dz.tru_tup, Dz.tru_str, Dz.len_lst, Dz.len_tup, Dz.len_str, Dz.add_int', Dz.sub_int', Dz.lt_int', Dz.le_int', Dz.gt_int', Dz.ge_int', Dz.eq_int', Dz.ne_int', Dz.eq_str', Dz.ne_str', Dz.asBl_bl, Dz.asStr_str, Dz.asInt_int, Dz.asLst_lst, Dz.asTup_tup, Dz.add_str', Dz.add_lst', Dz.add_tup', Dz.mul_int', Dz.mul_str', Dz.mod_int'', Dz.div_int', Dz.ix_lst', Dz.ix_tup', Dz.ix_str', Dz.sl_lst', Dz.sl_tup', Dz.sl_str', Dz.neg_int', Dz.at0, Dz.at1, Dz.at2, Dz.at3, Dz.at4, Dz.at5, Dz.at6, Dz.at7, Dz.int_int', Dz.int_bl', Dz.tupF_lst, Dz.tupF_tup, Dz.lstF_lst, Dz.lstF_tup, Dz.is_bl', Dz.not_bl', Dz.take_eq, Dz.some_some, Dz.two_eq, List.length_cons, List.length_nil, List.map_cons, List.map_nil, List.append_nil, List.cons_append, List.nil_append, Nat.reduceAdd, Nat.reduceSub, Nat.reduceLeDiff, Nat.zero_add, Int.toNat_natCast, if_true, if_false, Bool.false_eq_true, Bool.not_true, Bool.not_false, true_and, and_true, ite_true, ite_false, Dz.e_fld, Dz.obj_f, Dz.e_meth, Dz.is_obj, Dz.e_make, Dz.e_own1, Dz.e_ownIn, Dz.is_c, Dz.e_star, Dz.sq_lst, Dz.sq_tup, Dz.isL_lst, Dz.e_zip2, Dz.e_enum, Dz.e_sortSet, Dz.own_own, Dz.e_sown, Dz.e_sapp, Dz.e_sput, Dz.e_sins, Dz.e_sext, Dz.e_sfrz, Dz.e_ixo, Dz.e_truo, Dz.slf_slf, Dz.e_sslf, Dz.e_mslf, Dz.e_runI2, Dz.max2, Dz.min2, Dz.e_not, Dz.e_isiT, Dz.isi_lst_lt, Dz.isi_tup_lt, List.getElem?_cons_zero, List.getElem?_cons_succ, isi_non_int, isi_non_bool, isi_non_str, isi_non_tuple, isi_non_list, isi_non_dict, isi_bl_int, isi_bl_bool, isi_bl_str, isi_bl_tuple, isi_bl_list, isi_bl_dict, isi_int_int, isi_int_bool, isi_int_str, isi_int_tuple, isi_int_list, isi_int_dict, isi_str_int, isi_str_bool, isi_str_str, isi_str_tuple, isi_str_list, isi_str_dict, isi_tup_int, isi_tup_bool, isi_tup_str, isi_tup_tuple, isi_tup_list, isi_tup_dict, isi_lst_int, isi_lst_bool, isi_lst_str, isi_lst_tuple, isi_lst_list, isi_lst_dict, isi_dic_int, isi_dic_bool, isi_dic_str, isi_dic_tuple, isi_dic_list, isi_dic_dict, eqG_b]
        exact q
      · rw [if_neg (by rw [decide_eq_false h2]; simp)]
        rw [decide_eq_false (show ¬ x ≤ top from h2)] at q
        exact q
    · rw [if_neg (by rw [decide_eq_false h1]; simp)]
      rw [decide_eq_false h1] at q
      exact q
  refine ⟨by decide, ?_⟩
  rw [ne_ints]
  generalize hL : ((d + 1) :: ms).filter (fun x => decide (d < x) && (decide (x ≤ top) && (has S x == wanted))) = L
  have mem : ∀ x, x ∈ L ↔ (x = d + 1 ∨ (x ∈ points S ∧ x ≤ top)) ∧ d < x ∧ x ≤ top ∧ (has S x == wanted) = true := fun x => by
    rw [← hL, List.mem_filter, List.mem_cons, hm]
    simp only [Bool.and_eq_true, decide_eq_true_eq]
  have cand : ∀ x, d < x → x ≤ top → (has S x == wanted) = true → (x = d + 1 ∨ (has S (x - 1) == wanted) = false) → x ∈ L := fun x h1 h2 h3 h4 => by
    refine (mem x).mpr ⟨?_, h1, h2, h3⟩
    rcases h4 with h4 | h4
    · exact .inl h4
    · refine .inr ⟨turns fun z => ?_, h2⟩
      rw [z] at h3
      rw [h3] at h4
      cases h4
  simp -implicitDefEqProofs only [Dz.e_rng1, Dz.e_rngQ, Dz.e_seq, Dz.e_next, Dz.e_brk, Dz.e_cont, Dz.e_drop, Dz.e_ifS, Dz.e_asg, Dz.e_par, Dz.e_ret, Dz.e_retN, Dz.e_for, Dz.e_run1, Dz.e_run2, Dz.e_run3, Dz.e_run4, Dz.e_run5, Dz.e_run6, Dz.e_run7, Dz.e_run8, Dz.e_rep0, Dz.e_rep1, Dz.e_rep2, Dz.e_rep3, Dz.e_rep4, Dz.e_rep5, Dz.e_rep6, Dz.e_rep7, Dz.e_rep8, Dz.e_rep9, Dz.e_rep10, Dz.e_rep11, Dz.e_rep12, Dz.e_rep13, Dz.e_rep14, Dz.e_rep15, Dz.e_rep16, Dz.e_rep17, Dz.e_rep18, Dz.e_rep19, Dz.e_rep20, Dz.e_rep21, Dz.e_rep22, Dz.e_rep23, Dz.e_rep24, Dz.e_rep25, Dz.e_v0, Dz.e_s0, Dz.e_v1, Dz.e_s1, Dz.e_v2, Dz.e_s2, Dz.e_v3, Dz.e_s3, Dz.e_v4, Dz.e_s4, Dz.e_v5, Dz.e_s5, Dz.e_v6, Dz.e_s6, Dz.e_v7, Dz.e_s7, Dz.e_v8, Dz.e_s8, Dz.e_v9, Dz.e_s9, Dz.e_v10, Dz.e_s10, Dz.e_v11, Dz.e_s11, Dz.e_v12, Dz.e_s12, Dz.e_v13, Dz.e_s13, Dz.e_v14, Dz.e_s14, Dz.e_v15, Dz.e_s15, Dz.e_v16, Dz.e_s16, Dz.e_v17, Dz.e_s17, Dz.e_v18, Dz.e_s18, Dz.e_v19, Dz.e_s19, Dz.e_v20, Dz.e_s20, Dz.e_v21, Dz.e_s21, Dz.e_v22, Dz.e_s22, Dz.e_v23, Dz.e_s23, Dz.e_v24, Dz.e_s24, Dz.e_v25, Dz.e_s25, Dz.e_c, Dz.e_bin, Dz.e_un, Dz.e_test, Dz.e_tru, Dz.e_and, Dz.e_or, Dz.e_not, Dz.e_yes, Dz.e_andV, Dz.e_orV, Dz.e_notV, Dz.e_orT, Dz.e_andT, Dz.e_if, Dz.e_nil, Dz.e_cons, Dz.e_tup, Dz.e_lst, Dz.e_call, Dz.e_fn, Dz.e_chain, Dz.e_noP, Dz.e_part, Dz.e_sl, Dz.e_m1, Dz.e_m0, Dz.e_gv, Dz.e_gt, Dz.e_gc, Dz.e_gn, Dz.e_lc, Dz.e_w0, Dz.e_w1, Dz.e_list, Dz.e_tupI, Dz.e_strI, Dz.tru_bl, Dz.tru_int, Dz.tru_lst, Dz.tru_tup, Dz.tru_str, Dz.len_lst, Dz.len_tup, Dz.len_str, Dz.add_int', Dz.sub_int', Dz.lt_int', Dz.le_int', Dz.gt_int', Dz.ge_int', Dz.eq_int', Dz.ne_int', Dz.eq_str', Dz.ne_str', Dz.asBl_bl, Dz.asStr_str, Dz.asInt_int, Dz.asLst_lst, Dz.asTup_tup, Dz.add_str', Dz.add_lst', Dz.add_tup', Dz.mul_int', Dz.mul_str', Dz.mod_int'', Dz.div_int', Dz.ix_lst', Dz.ix_tup', Dz.ix_str', Dz.sl_lst', Dz.sl_tup', Dz.sl_str', Dz.neg_int', Dz.at0, Dz.at1, Dz.at2, Dz.at3, Dz.at4, Dz.at5, Dz.at6, Dz.at7, Dz.int_int', Dz.int_bl', Dz.tupF_lst, Dz.tupF_tup, Dz.lstF_lst, Dz.lstF_tup, Dz.is_bl', Dz.not_bl', Dz.take_eq, Dz.some_some, Dz.two_eq, List.length_cons, List.length_nil, List.map_cons, List.map_nil, List.append_nil, List.cons_append, List.nil_append, Nat.reduceAdd, Nat.reduceSub, Nat.reduceLeDiff, Nat.zero_add, Int.toNat_natCast, if_true, if_false, Bool.false_eq_true, Bool.not_true, Bool.not_false, true_and, and_true, ite_true, ite_false, Dz.e_fld, Dz.obj_f, Dz.e_meth, Dz.is_obj, Dz.e_make, Dz.e_own1, Dz.e_ownIn, Dz.is_c, Dz.e_star, Dz.sq_lst, Dz.sq_tup, Dz.isL_lst, Dz.e_zip2, Dz.e_enum, Dz.e_sortSet, Dz.own_own, Dz.e_sown, Dz.e_sapp, Dz.e_sput, Dz.e_sins, Dz.e_sext, Dz.e_sfrz, Dz.e_ixo, Dz.e_truo, Dz.slf_slf, Dz.e_sslf, Dz.e_mslf, Dz.e_runI2, Dz.max2, Dz.min2, Dz.e_not, Dz.e_isiT, Dz.isi_lst_lt, Dz.isi_tup_lt, List.getElem?_cons_zero, List.getElem?_cons_succ, isi_non_int, isi_non_bool, isi_non_str, isi_non_tuple, isi_non_list, isi_non_dict, isi_bl_int, isi_bl_bool, isi_bl_str, isi_bl_tuple, isi_bl_list, isi_bl_dict, isi_int_int, isi_int_bool, isi_int_str, isi_int_tuple, isi_int_list, isi_int_dict, isi_str_int, isi_str_bool, isi_str_str, isi_str_tuple, isi_str_list, isi_str_dict, isi_tup_int, isi_tup_bool, isi_tup_str, isi_tup_tuple, isi_tup_list, isi_tup_dict, isi_lst_int, isi_lst_bool, isi_lst_str, isi_lst_tuple, isi_lst_list, isi_lst_dict, isi_dic_int, isi_dic_bool, isi_dic_str, isi_dic_tuple, isi_dic_list, isi_dic_dict]
  cases L with
  | nil =>
    rw [if_neg (by simp)]
    exact h none (first_of (C := fun x => x ∈ ([] : List Int)) cand fun x h1 h2 h3 => by cases h3)
  | cons y L =>
    rw [if_pos (by simp)]
    show someD (intsOf ((y :: L).map D.int)) _
    rw [intsOf_map]
    refine ⟨by simp, fun m hm1 hm2 => ?_⟩
    obtain ⟨_, m1, m2, m3⟩ := (mem m).mp hm1
    exact h (some m) (first_of (C := fun x => x ∈ y :: L) cand ⟨m1, m2, m3, fun z z1 z2 z3 z4 => hm2 z z3⟩)
end K23

namespace K23
open PySem PySem.Spec PyProof.Rows L2 Dz DY
theorem tk (n : Int) (h0 : 0 < n) (h1 : n ≤ 2000000000) {P : Int → Prop} (h : ∀ r : Int, 0 ≤ r → r < n → P r) : (0 < n ∧ n.natAbs.log2 < 9000) ∧ ∀ r : Int, 0 ≤ r → r < n → P r := by
  refine ⟨⟨h0, ?_⟩, h⟩
  have : n.natAbs.log2 < 32 := (Nat.log2_lt (by omega)).mpr (by omega)
  omega
theorem mixed_spec (c : Cs) (S : List (Int × Int)) (hl : S.length ≤ 1000) (Q : D → Prop) (h : ∀ S', S'.Perm S → Q (.lst (sps S'))) : m__law_mixed c [.bag, .lst (sps S)] Q := by
  unfold m__law_mixed
  simp -implicitDefEqProofs only [Dz.e_rng1, Dz.e_rngQ, Dz.e_seq, Dz.e_next, Dz.e_brk, Dz.e_cont, Dz.e_drop, Dz.e_ifS, Dz.e_asg, Dz.e_par, Dz.e_ret, Dz.e_retN, Dz.e_for, Dz.e_run1, Dz.e_run2, Dz.e_run3, Dz.e_run4, Dz.e_run5, Dz.e_run6, Dz.e_run7, Dz.e_run8, Dz.e_rep0, Dz.e_rep1, Dz.e_rep2, Dz.e_rep3, Dz.e_rep4, Dz.e_rep5, Dz.e_rep6, Dz.e_rep7, Dz.e_rep8, Dz.e_rep9, Dz.e_rep10, Dz.e_rep11, Dz.e_rep12, Dz.e_rep13, Dz.e_rep14, Dz.e_rep15, Dz.e_rep16, Dz.e_rep17, Dz.e_rep18, Dz.e_rep19, Dz.e_rep20, Dz.e_rep21, Dz.e_rep22, Dz.e_rep23, Dz.e_rep24, Dz.e_rep25, Dz.e_v0, Dz.e_s0, Dz.e_v1, Dz.e_s1, Dz.e_v2, Dz.e_s2, Dz.e_v3, Dz.e_s3, Dz.e_v4, Dz.e_s4, Dz.e_v5, Dz.e_s5, Dz.e_v6, Dz.e_s6, Dz.e_v7, Dz.e_s7, Dz.e_v8, Dz.e_s8, Dz.e_v9, Dz.e_s9, Dz.e_v10, Dz.e_s10, Dz.e_v11, Dz.e_s11, Dz.e_v12, Dz.e_s12, Dz.e_v13, Dz.e_s13, Dz.e_v14, Dz.e_s14, Dz.e_v15, Dz.e_s15, Dz.e_v16, Dz.e_s16, Dz.e_v17, Dz.e_s17, Dz.e_v18, Dz.e_s18, Dz.e_v19, Dz.e_s19, Dz.e_v20, Dz.e_s20, Dz.e_v21, Dz.e_s21, Dz.e_v22, Dz.e_s22, Dz.e_v23, Dz.e_s23, Dz.e_v24, Dz.e_s24, Dz.e_v25, Dz.e_s25, Dz.e_c, Dz.e_bin, Dz.e_un, Dz.e_test, Dz.e_tru, Dz.e_and, Dz.e_or, Dz.e_not, Dz.e_yes, Dz.e_andV, Dz.e_orV, Dz.e_notV, Dz.e_orT, Dz.e_andT, Dz.e_if, Dz.e_nil, Dz.e_cons, Dz.e_tup, Dz.e_lst, Dz.e_call, Dz.e_fn, Dz.e_chain, Dz.e_noP, Dz.e_part, Dz.e_sl, Dz.e_m1, Dz.e_m0, Dz.e_gv, Dz.e_gt, Dz.e_gc, Dz.e_gn, Dz.e_lc, Dz.e_w0, Dz.e_w1, Dz.e_list, Dz.e_tupI, Dz.e_strI, Dz.tru_bl, Dz.tru_int, Dz.tru_lst, Dz.tru_tup, Dz.tru_str, Dz.len_lst, Dz.len_tup, Dz.len_str, Dz.add_int', Dz.sub_int', Dz.lt_int', Dz.le_int', Dz.gt_int', Dz.ge_int', Dz.eq_int', Dz.ne_int', Dz.eq_str', Dz.ne_str', Dz.asBl_bl, Dz.asStr_str, Dz.asInt_int, Dz.asLst_lst, Dz.asTup_tup, Dz.add_str', Dz.add_lst', Dz.add_tup', Dz.mul_int', Dz.mul_str', Dz.mod_int'', Dz.div_int', Dz.ix_lst', Dz.ix_tup', Dz.ix_str', Dz.sl_lst', Dz.sl_tup', Dz.sl_str', Dz.neg_int', Dz.at0, Dz.at1, Dz.at2, Dz.at3, Dz.at4, Dz.at5, Dz.at6, Dz.at7, Dz.int_int', Dz.int_bl', Dz.tupF_lst, Dz.tupF_tup, Dz.lstF_lst, Dz.lstF_tup, Dz.is_bl', Dz.not_bl', Dz.take_eq, Dz.some_some, Dz.two_eq, List.length_cons, List.length_nil, List.map_cons, List.map_nil, List.append_nil, List.cons_append, List.nil_append, Nat.reduceAdd, Nat.reduceSub, Nat.reduceLeDiff, Nat.zero_add, Int.toNat_natCast, if_true, if_false, Bool.false_eq_true, Bool.not_true, Bool.not_false, true_and, and_true, ite_true, ite_false, Dz.e_fld, Dz.obj_f, Dz.e_meth, Dz.is_obj, Dz.e_make, Dz.e_own1, Dz.e_ownIn, Dz.is_c, Dz.e_star, Dz.sq_lst, Dz.sq_tup, Dz.isL_lst, Dz.e_zip2, Dz.e_enum, Dz.e_sortSet, Dz.own_own, Dz.e_sown, Dz.e_sapp, Dz.e_sput, Dz.e_sins, Dz.e_sext, Dz.e_sfrz, Dz.e_ixo, Dz.e_truo, Dz.slf_slf, Dz.e_sslf, Dz.e_mslf, Dz.e_runI2, Dz.max2, Dz.min2, Dz.e_not, Dz.e_isiT, Dz.isi_lst_lt, Dz.isi_tup_lt, List.getElem?_cons_zero, List.getElem?_cons_succ, isi_non_int, isi_non_bool, isi_non_str, isi_non_tuple, isi_non_list, isi_non_dict, isi_bl_int, isi_bl_bool, isi_bl_str, isi_bl_tuple, isi_bl_list, isi_bl_dict, isi_int_int, isi_int_bool, isi_int_str, isi_int_tuple, isi_int_list, isi_int_dict, isi_str_int, isi_str_bool, isi_str_str, isi_str_tuple, isi_str_list, isi_str_dict, isi_tup_int, isi_tup_bool, isi_tup_str, isi_tup_tuple, isi_tup_list, isi_tup_dict, isi_lst_int, isi_lst_bool, isi_lst_str, isi_lst_tuple, isi_lst_list, isi_lst_dict, isi_dic_int, isi_dic_bool, isi_dic_str, isi_dic_tuple, isi_dic_list, isi_dic_dict]
  refine ⟨by decide, ?_⟩
  refine for_inv (fun rest ρ => ∃ (kept R : List (Int × Int)) (x3 : Slot), ρ = [Slot.val .bag, .val (.lst (sps S)), .own (sps kept), x3] ∧ rest = sps R ∧ (kept ++ R).Perm S) _ _ ⟨[], S, .no, rfl, rfl, .refl _⟩ (fun ρ hρ => ?_) (fun d ds ρ N hI hN => ?_)
  · obtain ⟨kept, R, x3, rfl, e, k⟩ := hρ
    have : R = [] := by cases R with
      | nil => rfl
      | cons a R => cases e
    subst this
    simp -implicitDefEqProofs only [Dz.e_rng1, Dz.e_rngQ, Dz.e_seq, Dz.e_next, Dz.e_brk, Dz.e_cont, Dz.e_drop, Dz.e_ifS, Dz.e_asg, Dz.e_par, Dz.e_ret, Dz.e_retN, Dz.e_for, Dz.e_run1, Dz.e_run2, Dz.e_run3, Dz.e_run4, Dz.e_run5, Dz.e_run6, Dz.e_run7, Dz.e_run8, Dz.e_rep0, Dz.e_rep1, Dz.e_rep2, Dz.e_rep3, Dz.e_rep4, Dz.e_rep5, Dz.e_rep6, Dz.e_rep7, Dz.e_rep8, Dz.e_rep9, Dz.e_rep10, Dz.e_rep11, Dz.e_rep12, Dz.e_rep13, Dz.e_rep14, Dz.e_rep15, Dz.e_rep16, Dz.e_rep17, Dz.e_rep18, Dz.e_rep19, Dz.e_rep20, Dz.e_rep21, Dz.e_rep22, Dz.e_rep23, Dz.e_rep24, Dz.e_rep25, Dz.e_v0, Dz.e_s0, Dz.e_v1, Dz.e_s1, Dz.e_v2, Dz.e_s2, Dz.e_v3, Dz.e_s3, Dz.e_v4, Dz.e_s4, Dz.e_v5, Dz.e_s5, Dz.e_v6, Dz.e_s6, Dz.e_v7, Dz.e_s7, Dz.e_v8, Dz.e_s8, Dz.e_v9, Dz.e_s9, Dz.e_v10, Dz.e_s10, Dz.e_v11, Dz.e_s11, Dz.e_v12, Dz.e_s12, Dz.e_v13, Dz.e_s13, Dz.e_v14, Dz.e_s14, Dz.e_v15, Dz.e_s15, Dz.e_v16, Dz.e_s16, Dz.e_v17, Dz.e_s17, Dz.e_v18, Dz.e_s18, Dz.e_v19, Dz.e_s19, Dz.e_v20, Dz.e_s20, Dz.e_v21, Dz.e_s21, Dz.e_v22, Dz.e_s22, Dz.e_v23, Dz.e_s23, Dz.e_v24, Dz.e_s24, Dz.e_v25, Dz.e_s25, Dz.e_c, Dz.e_bin, Dz.e_un, Dz.e_test, Dz.e_tru, Dz.e_and, Dz.e_or, Dz.e_not, Dz.e_yes, Dz.e_andV, Dz.e_orV, Dz.e_notV, Dz.e_orT, Dz.e_andT, Dz.e_if, Dz.e_nil, Dz.e_cons, Dz.e_tup, Dz.e_lst, Dz.e_call, Dz.e_fn, Dz.e_chain, Dz.e_noP, Dz.e_part, Dz.e_sl, Dz.e_m1, Dz.e_m0, Dz.e_gv, Dz.e_gt, Dz.e_gc, Dz.e_gn, Dz.e_lc, Dz.e_w0, Dz.e_w1, Dz.e_list, Dz.e_tupI, Dz.e_strI, Dz.tru_bl, Dz.tru_int, Dz.tru_lst, Dz.tru_tup, Dz.tru_str, Dz.len_lst, Dz.len_tup, Dz.len_str, Dz.add_int', Dz.sub_int', Dz.lt_int', Dz.le_int', Dz.gt_int', Dz.ge_int', Dz.eq_int', Dz.ne_int', Dz.eq_str', Dz.ne_str', Dz.asBl_bl, Dz.asStr_str, Dz.asInt_int, Dz.asLst_lst, Dz.asTup_tup, Dz.add_str', Dz.add_lst', Dz.add_tup', Dz.mul_int', Dz.mul_str', Dz.mod_int'', Dz.div_int', Dz.ix_lst', Dz.ix_tup', Dz.ix_str', Dz.sl_lst', Dz.sl_tup', Dz.sl_str', Dz.neg_int', Dz.at0, Dz.at1, Dz.at2, Dz.at3, Dz.at4, Dz.at5, Dz.at6, Dz.at7, Dz.int_int', Dz.int_bl', Dz.tupF_lst, Dz.tupF_tup, Dz.lstF_lst, Dz.lstF_tup, Dz.is_bl', Dz.not_bl', Dz.take_eq, Dz.some_some, Dz.two_eq, List.length_cons, List.length_nil, List.map_cons, List.map_nil, List.append_nil, List.cons_append, List.nil_append, Nat.reduceAdd, Nat.reduceSub, Nat.reduceLeDiff, Nat.zero_add, Int.toNat_natCast, if_true, if_false, Bool.false_eq_true, Bool.not_true, Bool.not_false, true_and, and_true, ite_true, ite_false, Dz.e_fld, Dz.obj_f, Dz.e_meth, Dz.is_obj, Dz.e_make, Dz.e_own1, Dz.e_ownIn, Dz.is_c, Dz.e_star, Dz.sq_lst, Dz.sq_tup, Dz.isL_lst, Dz.e_zip2, Dz.e_enum, Dz.e_sortSet, Dz.own_own, Dz.e_sown, Dz.e_sapp, Dz.e_sput, Dz.e_sins, Dz.e_sext, Dz.e_sfrz, Dz.e_ixo, Dz.e_truo, Dz.slf_slf, Dz.e_sslf, Dz.e_mslf, Dz.e_runI2, Dz.max2, Dz.min2, Dz.e_not, Dz.e_isiT, Dz.isi_lst_lt, Dz.isi_tup_lt, List.getElem?_cons_zero, List.getElem?_cons_succ, isi_non_int, isi_non_bool, isi_non_str, isi_non_tuple, isi_non_list, isi_non_dict, isi_bl_int, isi_bl_bool, isi_bl_str, isi_bl_tuple, isi_bl_list, isi_bl_dict, isi_int_int, isi_int_bool, isi_int_str, isi_int_tuple, isi_int_list, isi_int_dict, isi_str_int, isi_str_bool, isi_str_str, isi_str_tuple, isi_str_list, isi_str_dict, isi_tup_int, isi_tup_bool, isi_tup_str, isi_tup_tuple, isi_tup_list, isi_tup_dict, isi_lst_int, isi_lst_bool, isi_lst_str, isi_lst_tuple, isi_lst_list, isi_lst_dict, isi_dic_int, isi_dic_bool, isi_dic_str, isi_dic_tuple, isi_dic_list, isi_dic_dict]
    rw [List.append_nil] at k
    exact h kept k
  · obtain ⟨kept, R, x3, rfl, e, k⟩ := hI
    match R, e, k with
    | p :: R, e, k =>
      rw [sps_cons] at e
      cases e
      have kl := k.length_eq
      rw [List.length_append, List.length_cons] at kl
      simp -implicitDefEqProofs only [Dz.e_rng1, Dz.e_rngQ, Dz.e_seq, Dz.e_next, Dz.e_brk, Dz.e_cont, Dz.e_drop, Dz.e_ifS, Dz.e_asg, Dz.e_par, Dz.e_ret, Dz.e_retN, Dz.e_for, Dz.e_run1, Dz.e_run2, Dz.e_run3, Dz.e_run4, Dz.e_run5, Dz.e_run6, Dz.e_run7, Dz.e_run8, Dz.e_rep0, Dz.e_rep1, Dz.e_rep2, Dz.e_rep3, Dz.e_rep4, Dz.e_rep5, Dz.e_rep6, Dz.e_rep7, Dz.e_rep8, Dz.e_rep9, Dz.e_rep10, Dz.e_rep11, Dz.e_rep12, Dz.e_rep13, Dz.e_rep14, Dz.e_rep15, Dz.e_rep16, Dz.e_rep17, Dz.e_rep18, Dz.e_rep19, Dz.e_rep20, Dz.e_rep21, Dz.e_rep22, Dz.e_rep23, Dz.e_rep24, Dz.e_rep25, Dz.e_v0, Dz.e_s0, Dz.e_v1, Dz.e_s1, Dz.e_v2, Dz.e_s2, Dz.e_v3, Dz.e_s3, Dz.e_v4, Dz.e_s4, Dz.e_v5, Dz.e_s5, Dz.e_v6, Dz.e_s6, Dz.e_v7, Dz.e_s7, Dz.e_v8, Dz.e_s8, Dz.e_v9, Dz.e_s9, Dz.e_v10, Dz.e_s10, Dz.e_v11, Dz.e_s11, Dz.e_v12, Dz.e_s12, Dz.e_v13, Dz.e_s13, Dz.e_v14, Dz.e_s14, Dz.e_v15, Dz.e_s15, Dz.e_v16, Dz.e_s16, Dz.e_v17, Dz.e_s17, Dz.e_v18, Dz.e_s18, Dz.e_v19, Dz.e_s19, Dz.e_v20, Dz.e_s20, Dz.e_v21, Dz.e_s21, Dz.e_v22, Dz.e_s22, Dz.e_v23, Dz.e_s23, Dz.e_v24, Dz.e_s24, Dz.e_v25, Dz.e_s25, Dz.e_c, Dz.e_bin, Dz.e_un, Dz.e_test, Dz.e_tru, Dz.e_and, Dz.e_or, Dz.e_not, Dz.e_yes, Dz.e_andV, Dz.e_orV, Dz.e_notV, Dz.e_orT, Dz.e_andT, Dz.e_if, Dz.e_nil, Dz.e_cons, Dz.e_tup, Dz.e_lst, Dz.e_call, Dz.e_fn, Dz.e_chain, Dz.e_noP, Dz.e_part, Dz.e_sl, Dz.e_m1, Dz.e_m0, Dz.e_gv, Dz.e_gt, Dz.e_gc, Dz.e_gn, Dz.e_lc, Dz.e_w0, Dz.e_w1, Dz.e_list, Dz.e_tupI, Dz.e_strI, Dz.tru_bl, Dz.tru_int, Dz.tru_lst, Dz.tru_tup, Dz.tru_str, Dz.len_lst, Dz.len_tup, Dz.len_str, Dz.add_int', Dz.sub_int', Dz.lt_int', Dz.le_int', Dz.gt_int', Dz.ge_int', Dz.eq_int', Dz.ne_int', Dz.eq_str', Dz.ne_str', Dz.asBl_bl, Dz.asStr_str, Dz.asInt_int, Dz.asLst_lst, Dz.asTup_tup, Dz.add_str', Dz.add_lst', Dz.add_tup', Dz.mul_int', Dz.mul_str', Dz.mod_int'', Dz.div_int', Dz.ix_lst', Dz.ix_tup', Dz.ix_str', Dz.sl_lst', Dz.sl_tup', Dz.sl_str', Dz.neg_int', Dz.at0, Dz.at1, Dz.at2, Dz.at3, Dz.at4, Dz.at5, Dz.at6, Dz.at7, Dz.int_int', Dz.int_bl', Dz.tupF_lst, Dz.tupF_tup, Dz.lstF_lst, Dz.lstF_tup, Dz.is_bl', Dz.not_bl', Dz.take_eq, Dz.some_some, Dz.two_eq, List.length_cons, List.length_nil, List.map_cons, List.map_nil, List.append_nil, List.cons_append, List.nil_append, Nat.reduceAdd, Nat.reduceSub, Nat.reduceLeDiff, Nat.zero_add, Int.toNat_natCast, if_true, if_false, Bool.false_eq_true, Bool.not_true, Bool.not_false, true_and, and_true, ite_true, ite_false, Dz.e_fld, Dz.obj_f, Dz.e_meth, Dz.is_obj, Dz.e_make, Dz.e_own1, Dz.e_ownIn, Dz.is_c, Dz.e_star, Dz.sq_lst, Dz.sq_tup, Dz.isL_lst, Dz.e_zip2, Dz.e_enum, Dz.e_sortSet, Dz.own_own, Dz.e_sown, Dz.e_sapp, Dz.e_sput, Dz.e_sins, Dz.e_sext, Dz.e_sfrz, Dz.e_ixo, Dz.e_truo, Dz.slf_slf, Dz.e_sslf, Dz.e_mslf, Dz.e_runI2, Dz.max2, Dz.min2, Dz.e_not, Dz.e_isiT, Dz.isi_lst_lt, Dz.isi_tup_lt, List.getElem?_cons_zero, List.getElem?_cons_succ, isi_non_int, isi_non_bool, isi_non_str, isi_non_tuple, isi_non_list, isi_non_dict, isi_bl_int, isi_bl_bool, isi_bl_str, isi_bl_tuple, isi_bl_list, isi_bl_dict, isi_int_int, isi_int_bool, isi_int_str, isi_int_tuple, isi_int_list, isi_int_dict, isi_str_int, isi_str_bool, isi_str_str, isi_str_tuple, isi_str_list, isi_str_dict, isi_tup_int, isi_tup_bool, isi_tup_str, isi_tup_tuple, isi_tup_list, isi_tup_dict, isi_lst_int, isi_lst_bool, isi_lst_str, isi_lst_tuple, isi_lst_list, isi_lst_dict, isi_dic_int, isi_dic_bool, isi_dic_str, isi_dic_tuple, isi_dic_list, isi_dic_dict, e_leno]
      rw [sps_len]
      refine tk _ (by omega) (by omega) fun r r0 r1 => ?_
      refine ⟨⟨by exact Nat.lt_of_lt_of_le (show kept.length < 100000 by omega) (by decide), r0, by omega⟩, ?_⟩
      refine hN _ ⟨kept.take r.toNat ++ [p] ++ kept.drop r.toNat, R, .val (pr p), ?_, rfl, ?_⟩
      · rw [sps_app, sps_app]
        simp [sps, List.map_take, List.map_drop]
      · refine List.Perm.trans ?_ k
        rw [List.append_assoc, List.append_assoc]
        conv => rhs; rw [← List.take_append_drop r.toNat kept, List.append_assoc]
        refine List.Perm.append_left _ ?_
        rw [List.cons_append, List.nil_append]
        exact (List.perm_middle).symm
theorem pick {α : Type} (xs : List α) (r : Int) (h0 : 0 ≤ r) (h1 : r < xs.length) (P : α → Prop) (h : ∀ x ∈ xs, P x) : someD (atI xs r) P := by
  have : atI xs r = some (xs[r.toNat]'(by omega)) := by
    unfold atI ixN
    rw [if_pos h0, if_pos (by omega)]
    show xs[r.toNat]? = _
    exact List.getElem?_eq_getElem (by omega)
  rw [this]
  exact h _ (List.getElem_mem _)
def capI (i : Int) : Int := if (if i < 1000000000 then i else 1000000000) > 0 then (if i < 1000000000 then i else 1000000000) else 0
theorem capI_in (i : Int) : 0 ≤ capI i ∧ capI i ≤ top := by
  have t : top = 1000000000 := rfl
  unfold capI
  split <;> split <;> omega
theorem drawn_spec (c : Cs) (Q : D → Prop) (h : ∀ S, Inr S → S.length ≤ 8 → Q (.lst (sps S))) : m__law_drawn_spans c [.bag, .int 8] Q := by
  unfold m__law_drawn_spans
  simp -implicitDefEqProofs only [Dz.e_rng1, Dz.e_rngQ, Dz.e_seq, Dz.e_next, Dz.e_brk, Dz.e_cont, Dz.e_drop, Dz.e_ifS, Dz.e_asg, Dz.e_par, Dz.e_ret, Dz.e_retN, Dz.e_for, Dz.e_run1, Dz.e_run2, Dz.e_run3, Dz.e_run4, Dz.e_run5, Dz.e_run6, Dz.e_run7, Dz.e_run8, Dz.e_rep0, Dz.e_rep1, Dz.e_rep2, Dz.e_rep3, Dz.e_rep4, Dz.e_rep5, Dz.e_rep6, Dz.e_rep7, Dz.e_rep8, Dz.e_rep9, Dz.e_rep10, Dz.e_rep11, Dz.e_rep12, Dz.e_rep13, Dz.e_rep14, Dz.e_rep15, Dz.e_rep16, Dz.e_rep17, Dz.e_rep18, Dz.e_rep19, Dz.e_rep20, Dz.e_rep21, Dz.e_rep22, Dz.e_rep23, Dz.e_rep24, Dz.e_rep25, Dz.e_v0, Dz.e_s0, Dz.e_v1, Dz.e_s1, Dz.e_v2, Dz.e_s2, Dz.e_v3, Dz.e_s3, Dz.e_v4, Dz.e_s4, Dz.e_v5, Dz.e_s5, Dz.e_v6, Dz.e_s6, Dz.e_v7, Dz.e_s7, Dz.e_v8, Dz.e_s8, Dz.e_v9, Dz.e_s9, Dz.e_v10, Dz.e_s10, Dz.e_v11, Dz.e_s11, Dz.e_v12, Dz.e_s12, Dz.e_v13, Dz.e_s13, Dz.e_v14, Dz.e_s14, Dz.e_v15, Dz.e_s15, Dz.e_v16, Dz.e_s16, Dz.e_v17, Dz.e_s17, Dz.e_v18, Dz.e_s18, Dz.e_v19, Dz.e_s19, Dz.e_v20, Dz.e_s20, Dz.e_v21, Dz.e_s21, Dz.e_v22, Dz.e_s22, Dz.e_v23, Dz.e_s23, Dz.e_v24, Dz.e_s24, Dz.e_v25, Dz.e_s25, Dz.e_c, Dz.e_bin, Dz.e_un, Dz.e_test, Dz.e_tru, Dz.e_and, Dz.e_or, Dz.e_not, Dz.e_yes, Dz.e_andV, Dz.e_orV, Dz.e_notV, Dz.e_orT, Dz.e_andT, Dz.e_if, Dz.e_nil, Dz.e_cons, Dz.e_tup, Dz.e_lst, Dz.e_call, Dz.e_fn, Dz.e_chain, Dz.e_noP, Dz.e_part, Dz.e_sl, Dz.e_m1, Dz.e_m0, Dz.e_gv, Dz.e_gt, Dz.e_gc, Dz.e_gn, Dz.e_lc, Dz.e_w0, Dz.e_w1, Dz.e_list, Dz.e_tupI, Dz.e_strI, Dz.tru_bl, Dz.tru_int, Dz.tru_lst, Dz.tru_tup, Dz.tru_str, Dz.len_lst, Dz.len_tup, Dz.len_str, Dz.add_int', Dz.sub_int', Dz.lt_int', Dz.le_int', Dz.gt_int', Dz.ge_int', Dz.eq_int', Dz.ne_int', Dz.eq_str', Dz.ne_str', Dz.asBl_bl, Dz.asStr_str, Dz.asInt_int, Dz.asLst_lst, Dz.asTup_tup, Dz.add_str', Dz.add_lst', Dz.add_tup', Dz.mul_int', Dz.mul_str', Dz.mod_int'', Dz.div_int', Dz.ix_lst', Dz.ix_tup', Dz.ix_str', Dz.sl_lst', Dz.sl_tup', Dz.sl_str', Dz.neg_int', Dz.at0, Dz.at1, Dz.at2, Dz.at3, Dz.at4, Dz.at5, Dz.at6, Dz.at7, Dz.int_int', Dz.int_bl', Dz.tupF_lst, Dz.tupF_tup, Dz.lstF_lst, Dz.lstF_tup, Dz.is_bl', Dz.not_bl', Dz.take_eq, Dz.some_some, Dz.two_eq, List.length_cons, List.length_nil, List.map_cons, List.map_nil, List.append_nil, List.cons_append, List.nil_append, Nat.reduceAdd, Nat.reduceSub, Nat.reduceLeDiff, Nat.zero_add, Int.toNat_natCast, if_true, if_false, Bool.false_eq_true, Bool.not_true, Bool.not_false, true_and, and_true, ite_true, ite_false, Dz.e_fld, Dz.obj_f, Dz.e_meth, Dz.is_obj, Dz.e_make, Dz.e_own1, Dz.e_ownIn, Dz.is_c, Dz.e_star, Dz.sq_lst, Dz.sq_tup, Dz.isL_lst, Dz.e_zip2, Dz.e_enum, Dz.e_sortSet, Dz.own_own, Dz.e_sown, Dz.e_sapp, Dz.e_sput, Dz.e_sins, Dz.e_sext, Dz.e_sfrz, Dz.e_ixo, Dz.e_truo, Dz.slf_slf, Dz.e_sslf, Dz.e_mslf, Dz.e_runI2, Dz.max2, Dz.min2, Dz.e_not, Dz.e_isiT, Dz.isi_lst_lt, Dz.isi_tup_lt, List.getElem?_cons_zero, List.getElem?_cons_succ, isi_non_int, isi_non_bool, isi_non_str, isi_non_tuple, isi_non_list, isi_non_dict, isi_bl_int, isi_bl_bool, isi_bl_str, isi_bl_tuple, isi_bl_list, isi_bl_dict, isi_int_int, isi_int_bool, isi_int_str, isi_int_tuple, isi_int_list, isi_int_dict, isi_str_int, isi_str_bool, isi_str_str, isi_str_tuple, isi_str_list, isi_str_dict, isi_tup_int, isi_tup_bool, isi_tup_str, isi_tup_tuple, isi_tup_list, isi_tup_dict, isi_lst_int, isi_lst_bool, isi_lst_str, isi_lst_tuple, isi_lst_list, isi_lst_dict, isi_dic_int, isi_dic_bool, isi_dic_str, isi_dic_tuple, isi_dic_list, isi_dic_dict]
  refine ⟨by decide, tk _ (by omega) (by omega) fun n n0 n1 => ?_⟩
  refine ⟨by omega, by omega, ?_⟩
  refine for_inv (fun rest ρ => ∃ (kept : List (Int × Int)) (x3 x4 x5 x6 : Slot), ρ = [Slot.val .bag, .val (.int 8), .own (sps kept), x3, x4, x5, x6] ∧ kept.length + rest.length ≤ 8 ∧ Inr kept) _ _ ⟨[], .no, .no, .no, .no, rfl, by rw [up_len]; simp; omega, fun p hp => by cases hp⟩ (fun ρ hρ => ?_) (fun d ds ρ N hI hN => ?_)
  · obtain ⟨kept, x3, x4, x5, x6, rfl, e, k⟩ := hρ
    simp -implicitDefEqProofs only [Dz.e_rng1, Dz.e_rngQ, Dz.e_seq, Dz.e_next, Dz.e_brk, Dz.e_cont, Dz.e_drop, Dz.e_ifS, Dz.e_asg, Dz.e_par, Dz.e_ret, Dz.e_retN, Dz.e_for, Dz.e_run1, Dz.e_run2, Dz.e_run3, Dz.e_run4, Dz.e_run5, Dz.e_run6, Dz.e_run7, Dz.e_run8, Dz.e_rep0, Dz.e_rep1, Dz.e_rep2, Dz.e_rep3, Dz.e_rep4, Dz.e_rep5, Dz.e_rep6, Dz.e_rep7, Dz.e_rep8, Dz.e_rep9, Dz.e_rep10, Dz.e_rep11, Dz.e_rep12, Dz.e_rep13, Dz.e_rep14, Dz.e_rep15, Dz.e_rep16, Dz.e_rep17, Dz.e_rep18, Dz.e_rep19, Dz.e_rep20, Dz.e_rep21, Dz.e_rep22, Dz.e_rep23, Dz.e_rep24, Dz.e_rep25, Dz.e_v0, Dz.e_s0, Dz.e_v1, Dz.e_s1, Dz.e_v2, Dz.e_s2, Dz.e_v3, Dz.e_s3, Dz.e_v4, Dz.e_s4, Dz.e_v5, Dz.e_s5, Dz.e_v6, Dz.e_s6, Dz.e_v7, Dz.e_s7, Dz.e_v8, Dz.e_s8, Dz.e_v9, Dz.e_s9, Dz.e_v10, Dz.e_s10, Dz.e_v11, Dz.e_s11, Dz.e_v12, Dz.e_s12, Dz.e_v13, Dz.e_s13, Dz.e_v14, Dz.e_s14, Dz.e_v15, Dz.e_s15, Dz.e_v16, Dz.e_s16, Dz.e_v17, Dz.e_s17, Dz.e_v18, Dz.e_s18, Dz.e_v19, Dz.e_s19, Dz.e_v20, Dz.e_s20, Dz.e_v21, Dz.e_s21, Dz.e_v22, Dz.e_s22, Dz.e_v23, Dz.e_s23, Dz.e_v24, Dz.e_s24, Dz.e_v25, Dz.e_s25, Dz.e_c, Dz.e_bin, Dz.e_un, Dz.e_test, Dz.e_tru, Dz.e_and, Dz.e_or, Dz.e_not, Dz.e_yes, Dz.e_andV, Dz.e_orV, Dz.e_notV, Dz.e_orT, Dz.e_andT, Dz.e_if, Dz.e_nil, Dz.e_cons, Dz.e_tup, Dz.e_lst, Dz.e_call, Dz.e_fn, Dz.e_chain, Dz.e_noP, Dz.e_part, Dz.e_sl, Dz.e_m1, Dz.e_m0, Dz.e_gv, Dz.e_gt, Dz.e_gc, Dz.e_gn, Dz.e_lc, Dz.e_w0, Dz.e_w1, Dz.e_list, Dz.e_tupI, Dz.e_strI, Dz.tru_bl, Dz.tru_int, Dz.tru_lst, Dz.tru_tup, Dz.tru_str, Dz.len_lst, Dz.len_tup, Dz.len_str, Dz.add_int', Dz.sub_int', Dz.lt_int', Dz.le_int', Dz.gt_int', Dz.ge_int', Dz.eq_int', Dz.ne_int', Dz.eq_str', Dz.ne_str', Dz.asBl_bl, Dz.asStr_str, Dz.asInt_int, Dz.asLst_lst, Dz.asTup_tup, Dz.add_str', Dz.add_lst', Dz.add_tup', Dz.mul_int', Dz.mul_str', Dz.mod_int'', Dz.div_int', Dz.ix_lst', Dz.ix_tup', Dz.ix_str', Dz.sl_lst', Dz.sl_tup', Dz.sl_str', Dz.neg_int', Dz.at0, Dz.at1, Dz.at2, Dz.at3, Dz.at4, Dz.at5, Dz.at6, Dz.at7, Dz.int_int', Dz.int_bl', Dz.tupF_lst, Dz.tupF_tup, Dz.lstF_lst, Dz.lstF_tup, Dz.is_bl', Dz.not_bl', Dz.take_eq, Dz.some_some, Dz.two_eq, List.length_cons, List.length_nil, List.map_cons, List.map_nil, List.append_nil, List.cons_append, List.nil_append, Nat.reduceAdd, Nat.reduceSub, Nat.reduceLeDiff, Nat.zero_add, Int.toNat_natCast, if_true, if_false, Bool.false_eq_true, Bool.not_true, Bool.not_false, true_and, and_true, ite_true, ite_false, Dz.e_fld, Dz.obj_f, Dz.e_meth, Dz.is_obj, Dz.e_make, Dz.e_own1, Dz.e_ownIn, Dz.is_c, Dz.e_star, Dz.sq_lst, Dz.sq_tup, Dz.isL_lst, Dz.e_zip2, Dz.e_enum, Dz.e_sortSet, Dz.own_own, Dz.e_sown, Dz.e_sapp, Dz.e_sput, Dz.e_sins, Dz.e_sext, Dz.e_sfrz, Dz.e_ixo, Dz.e_truo, Dz.slf_slf, Dz.e_sslf, Dz.e_mslf, Dz.e_runI2, Dz.max2, Dz.min2, Dz.e_not, Dz.e_isiT, Dz.isi_lst_lt, Dz.isi_tup_lt, List.getElem?_cons_zero, List.getElem?_cons_succ, isi_non_int, isi_non_bool, isi_non_str, isi_non_tuple, isi_non_list, isi_non_dict, isi_bl_int, isi_bl_bool, isi_bl_str, isi_bl_tuple, isi_bl_list, isi_bl_dict, isi_int_int, isi_int_bool, isi_int_str, isi_int_tuple, isi_int_list, isi_int_dict, isi_str_int, isi_str_bool, isi_str_str, isi_str_tuple, isi_str_list, isi_str_dict, isi_tup_int, isi_tup_bool, isi_tup_str, isi_tup_tuple, isi_tup_list, isi_tup_dict, isi_lst_int, isi_lst_bool, isi_lst_str, isi_lst_tuple, isi_lst_list, isi_lst_dict, isi_dic_int, isi_dic_bool, isi_dic_str, isi_dic_tuple, isi_dic_list, isi_dic_dict]
    exact h kept k (by simpa using e)
  · obtain ⟨kept, x3, x4, x5, x6, rfl, e, k⟩ := hI
    simp -implicitDefEqProofs only [Dz.e_rng1, Dz.e_rngQ, Dz.e_seq, Dz.e_next, Dz.e_brk, Dz.e_cont, Dz.e_drop, Dz.e_ifS, Dz.e_asg, Dz.e_par, Dz.e_ret, Dz.e_retN, Dz.e_for, Dz.e_run1, Dz.e_run2, Dz.e_run3, Dz.e_run4, Dz.e_run5, Dz.e_run6, Dz.e_run7, Dz.e_run8, Dz.e_rep0, Dz.e_rep1, Dz.e_rep2, Dz.e_rep3, Dz.e_rep4, Dz.e_rep5, Dz.e_rep6, Dz.e_rep7, Dz.e_rep8, Dz.e_rep9, Dz.e_rep10, Dz.e_rep11, Dz.e_rep12, Dz.e_rep13, Dz.e_rep14, Dz.e_rep15, Dz.e_rep16, Dz.e_rep17, Dz.e_rep18, Dz.e_rep19, Dz.e_rep20, Dz.e_rep21, Dz.e_rep22, Dz.e_rep23, Dz.e_rep24, Dz.e_rep25, Dz.e_v0, Dz.e_s0, Dz.e_v1, Dz.e_s1, Dz.e_v2, Dz.e_s2, Dz.e_v3, Dz.e_s3, Dz.e_v4, Dz.e_s4, Dz.e_v5, Dz.e_s5, Dz.e_v6, Dz.e_s6, Dz.e_v7, Dz.e_s7, Dz.e_v8, Dz.e_s8, Dz.e_v9, Dz.e_s9, Dz.e_v10, Dz.e_s10, Dz.e_v11, Dz.e_s11, Dz.e_v12, Dz.e_s12, Dz.e_v13, Dz.e_s13, Dz.e_v14, Dz.e_s14, Dz.e_v15, Dz.e_s15, Dz.e_v16, Dz.e_s16, Dz.e_v17, Dz.e_s17, Dz.e_v18, Dz.e_s18, Dz.e_v19, Dz.e_s19, Dz.e_v20, Dz.e_s20, Dz.e_v21, Dz.e_s21, Dz.e_v22, Dz.e_s22, Dz.e_v23, Dz.e_s23, Dz.e_v24, Dz.e_s24, Dz.e_v25, Dz.e_s25, Dz.e_c, Dz.e_bin, Dz.e_un, Dz.e_test, Dz.e_tru, Dz.e_and, Dz.e_or, Dz.e_not, Dz.e_yes, Dz.e_andV, Dz.e_orV, Dz.e_notV, Dz.e_orT, Dz.e_andT, Dz.e_if, Dz.e_nil, Dz.e_cons, Dz.e_tup, Dz.e_lst, Dz.e_call, Dz.e_fn, Dz.e_chain, Dz.e_noP, Dz.e_part, Dz.e_sl, Dz.e_m1, Dz.e_m0, Dz.e_gv, Dz.e_gt, Dz.e_gc, Dz.e_gn, Dz.e_lc, Dz.e_w0, Dz.e_w1, Dz.e_list, Dz.e_tupI, Dz.e_strI, Dz.tru_bl, Dz.tru_int, Dz.tru_lst, Dz.tru_tup, Dz.tru_str, Dz.len_lst, Dz.len_tup, Dz.len_str, Dz.add_int', Dz.sub_int', Dz.lt_int', Dz.le_int', Dz.gt_int', Dz.ge_int', Dz.eq_int', Dz.ne_int', Dz.eq_str', Dz.ne_str', Dz.asBl_bl, Dz.asStr_str, Dz.asInt_int, Dz.asLst_lst, Dz.asTup_tup, Dz.add_str', Dz.add_lst', Dz.add_tup', Dz.mul_int', Dz.mul_str', Dz.mod_int'', Dz.div_int', Dz.ix_lst', Dz.ix_tup', Dz.ix_str', Dz.sl_lst', Dz.sl_tup', Dz.sl_str', Dz.neg_int', Dz.at0, Dz.at1, Dz.at2, Dz.at3, Dz.at4, Dz.at5, Dz.at6, Dz.at7, Dz.int_int', Dz.int_bl', Dz.tupF_lst, Dz.tupF_tup, Dz.lstF_lst, Dz.lstF_tup, Dz.is_bl', Dz.not_bl', Dz.take_eq, Dz.some_some, Dz.two_eq, List.length_cons, List.length_nil, List.map_cons, List.map_nil, List.append_nil, List.cons_append, List.nil_append, Nat.reduceAdd, Nat.reduceSub, Nat.reduceLeDiff, Nat.zero_add, Int.toNat_natCast, if_true, if_false, Bool.false_eq_true, Bool.not_true, Bool.not_false, true_and, and_true, ite_true, ite_false, Dz.e_fld, Dz.obj_f, Dz.e_meth, Dz.is_obj, Dz.e_make, Dz.e_own1, Dz.e_ownIn, Dz.is_c, Dz.e_star, Dz.sq_lst, Dz.sq_tup, Dz.isL_lst, Dz.e_zip2, Dz.e_enum, Dz.e_sortSet, Dz.own_own, Dz.e_sown, Dz.e_sapp, Dz.e_sput, Dz.e_sins, Dz.e_sext, Dz.e_sfrz, Dz.e_ixo, Dz.e_truo, Dz.slf_slf, Dz.e_sslf, Dz.e_mslf, Dz.e_runI2, Dz.max2, Dz.min2, Dz.e_not, Dz.e_isiT, Dz.isi_lst_lt, Dz.isi_tup_lt, List.getElem?_cons_zero, List.getElem?_cons_succ, isi_non_int, isi_non_bool, isi_non_str, isi_non_tuple, isi_non_list, isi_non_dict, isi_bl_int, isi_bl_bool, isi_bl_str, isi_bl_tuple, isi_bl_list, isi_bl_dict, isi_int_int, isi_int_bool, isi_int_str, isi_int_tuple, isi_int_list, isi_int_dict, isi_str_int, isi_str_bool, isi_str_str, isi_str_tuple, isi_str_list, isi_str_dict, isi_tup_int, isi_tup_bool, isi_tup_str, isi_tup_tuple, isi_tup_list, isi_tup_dict, isi_lst_int, isi_lst_bool, isi_lst_str, isi_lst_tuple, isi_lst_list, isi_lst_dict, isi_dic_int, isi_dic_bool, isi_dic_str, isi_dic_tuple, isi_dic_list, isi_dic_dict, pow9]
    refine tk _ (by omega) (by omega) fun g g0 g1 => ?_
    refine tk _ (by omega) (by omega) fun r1 r10 r11 => ?_
    refine tk _ (by omega) (by omega) fun r2 r20 r21 => ?_
    refine tk _ (by omega) (by omega) fun r3 r30 r31 => ⟨by decide, ?_⟩
    refine tk _ (by omega) (by omega) fun r4 r40 r41 => ?_
    have t : top = 1000000000 := rfl
    refine pick _ r4 r40 (by simpa using r41) _ fun x hx => ?_
    obtain ⟨i, rfl, hi⟩ : ∃ i : Int, x = .int i ∧ 0 ≤ i ∧ i ≤ top := by
      simp only [List.mem_cons, List.not_mem_nil, or_false] at hx
      rcases hx with rfl | rfl | rfl | rfl | rfl <;> exact ⟨_, rfl, by omega, by omega⟩
    refine tk _ (by omega) (by omega) fun r5 r50 r51 => ?_
    simp -implicitDefEqProofs only [Dz.e_rng1, Dz.e_rngQ, Dz.e_seq, Dz.e_next, Dz.e_brk, Dz.e_cont, Dz.e_drop, Dz.e_ifS, Dz.e_asg, Dz.e_par, Dz.e_ret, Dz.e_retN, Dz.e_for, Dz.e_run1, Dz.e_run2, Dz.e_run3, Dz.e_run4, Dz.e_run5, Dz.e_run6, Dz.e_run7, Dz.e_run8, Dz.e_rep0, Dz.e_rep1, Dz.e_rep2, Dz.e_rep3, Dz.e_rep4, Dz.e_rep5, Dz.e_rep6, Dz.e_rep7, Dz.e_rep8, Dz.e_rep9, Dz.e_rep10, Dz.e_rep11, Dz.e_rep12, Dz.e_rep13, Dz.e_rep14, Dz.e_rep15, Dz.e_rep16, Dz.e_rep17, Dz.e_rep18, Dz.e_rep19, Dz.e_rep20, Dz.e_rep21, Dz.e_rep22, Dz.e_rep23, Dz.e_rep24, Dz.e_rep25, Dz.e_v0, Dz.e_s0, Dz.e_v1, Dz.e_s1, Dz.e_v2, Dz.e_s2, Dz.e_v3, Dz.e_s3, Dz.e_v4, Dz.e_s4, Dz.e_v5, Dz.e_s5, Dz.e_v6, Dz.e_s6, Dz.e_v7, Dz.e_s7, Dz.e_v8, Dz.e_s8, Dz.e_v9, Dz.e_s9, Dz.e_v10, Dz.e_s10, Dz.e_v11, Dz.e_s11, Dz.e_v12, Dz.e_s12, Dz.e_v13, Dz.e_s13, Dz.e_v14, Dz.e_s14, Dz.e_v15, Dz.e_s15, Dz.e_v16, Dz.e_s16, Dz.e_v17, Dz.e_s17, Dz.e_v18, Dz.e_s18, Dz.e_v19, Dz.e_s19, Dz.e_v20, Dz.e_s20, Dz.e_v21, Dz.e_s21, Dz.e_v22, Dz.e_s22, Dz.e_v23, Dz.e_s23, Dz.e_v24, Dz.e_s24, Dz.e_v25, Dz.e_s25, Dz.e_c, Dz.e_bin, Dz.e_un, Dz.e_test, Dz.e_tru, Dz.e_and, Dz.e_or, Dz.e_not, Dz.e_yes, Dz.e_andV, Dz.e_orV, Dz.e_notV, Dz.e_orT, Dz.e_andT, Dz.e_if, Dz.e_nil, Dz.e_cons, Dz.e_tup, Dz.e_lst, Dz.e_call, Dz.e_fn, Dz.e_chain, Dz.e_noP, Dz.e_part, Dz.e_sl, Dz.e_m1, Dz.e_m0, Dz.e_gv, Dz.e_gt, Dz.e_gc, Dz.e_gn, Dz.e_lc, Dz.e_w0, Dz.e_w1, Dz.e_list, Dz.e_tupI, Dz.e_strI, Dz.tru_bl, Dz.tru_int, Dz.tru_lst, Dz.tru_tup, Dz.tru_str, Dz.len_lst, Dz.len_tup, Dz.len_str, Dz.add_int', Dz.sub_int', Dz.lt_int', Dz.le_int', Dz.gt_int', Dz.ge_int', Dz.eq_int', Dz.ne_int', Dz.eq_str', Dz.ne_str', Dz.asBl_bl, Dz.asStr_str, Dz.asInt_int, Dz.asLst_lst, Dz.asTup_tup, Dz.add_str', Dz.add_lst', Dz.add_tup', Dz.mul_int', Dz.mul_str', Dz.mod_int'', Dz.div_int', Dz.ix_lst', Dz.ix_tup', Dz.ix_str', Dz.sl_lst', Dz.sl_tup', Dz.sl_str', Dz.neg_int', Dz.at0, Dz.at1, Dz.at2, Dz.at3, Dz.at4, Dz.at5, Dz.at6, Dz.at7, Dz.int_int', Dz.int_bl', Dz.tupF_lst, Dz.tupF_tup, Dz.lstF_lst, Dz.lstF_tup, Dz.is_bl', Dz.not_bl', Dz.take_eq, Dz.some_some, Dz.two_eq, List.length_cons, List.length_nil, List.map_cons, List.map_nil, List.append_nil, List.cons_append, List.nil_append, Nat.reduceAdd, Nat.reduceSub, Nat.reduceLeDiff, Nat.zero_add, Int.toNat_natCast, if_true, if_false, Bool.false_eq_true, Bool.not_true, Bool.not_false, true_and, and_true, ite_true, ite_false, Dz.e_fld, Dz.obj_f, Dz.e_meth, Dz.is_obj, Dz.e_make, Dz.e_own1, Dz.e_ownIn, Dz.is_c, Dz.e_star, Dz.sq_lst, Dz.sq_tup, Dz.isL_lst, Dz.e_zip2, Dz.e_enum, Dz.e_sortSet, Dz.own_own, Dz.e_sown, Dz.e_sapp, Dz.e_sput, Dz.e_sins, Dz.e_sext, Dz.e_sfrz, Dz.e_ixo, Dz.e_truo, Dz.slf_slf, Dz.e_sslf, Dz.e_mslf, Dz.e_runI2, Dz.max2, Dz.min2, Dz.e_not, Dz.e_isiT, Dz.isi_lst_lt, Dz.isi_tup_lt, List.getElem?_cons_zero, List.getElem?_cons_succ, isi_non_int, isi_non_bool, isi_non_str, isi_non_tuple, isi_non_list, isi_non_dict, isi_bl_int, isi_bl_bool, isi_bl_str, isi_bl_tuple, isi_bl_list, isi_bl_dict, isi_int_int, isi_int_bool, isi_int_str, isi_int_tuple, isi_int_list, isi_int_dict, isi_str_int, isi_str_bool, isi_str_str, isi_str_tuple, isi_str_list, isi_str_dict, isi_tup_int, isi_tup_bool, isi_tup_str, isi_tup_tuple, isi_tup_list, isi_tup_dict, isi_lst_int, isi_lst_bool, isi_lst_str, isi_lst_tuple, isi_lst_list, isi_lst_dict, isi_dic_int, isi_dic_bool, isi_dic_str, isi_dic_tuple, isi_dic_list, isi_dic_dict]
    refine tk _ (by omega) (by omega) fun r6 r60 r61 => ⟨by decide, ?_⟩
    refine tk _ (by omega) (by omega) fun r7 r70 r71 => ?_
    refine pick _ r7 r70 (by simpa using r71) _ fun y hy => ?_
    obtain ⟨j, rfl⟩ : ∃ j : Int, y = .int j := by
      simp only [List.mem_cons, List.not_mem_nil, or_false] at hy
      rcases hy with rfl | rfl | rfl | rfl | rfl <;> exact ⟨_, rfl⟩
    simp -implicitDefEqProofs only [Dz.e_rng1, Dz.e_rngQ, Dz.e_seq, Dz.e_next, Dz.e_brk, Dz.e_cont, Dz.e_drop, Dz.e_ifS, Dz.e_asg, Dz.e_par, Dz.e_ret, Dz.e_retN, Dz.e_for, Dz.e_run1, Dz.e_run2, Dz.e_run3, Dz.e_run4, Dz.e_run5, Dz.e_run6, Dz.e_run7, Dz.e_run8, Dz.e_rep0, Dz.e_rep1, Dz.e_rep2, Dz.e_rep3, Dz.e_rep4, Dz.e_rep5, Dz.e_rep6, Dz.e_rep7, Dz.e_rep8, Dz.e_rep9, Dz.e_rep10, Dz.e_rep11, Dz.e_rep12, Dz.e_rep13, Dz.e_rep14, Dz.e_rep15, Dz.e_rep16, Dz.e_rep17, Dz.e_rep18, Dz.e_rep19, Dz.e_rep20, Dz.e_rep21, Dz.e_rep22, Dz.e_rep23, Dz.e_rep24, Dz.e_rep25, Dz.e_v0, Dz.e_s0, Dz.e_v1, Dz.e_s1, Dz.e_v2, Dz.e_s2, Dz.e_v3, Dz.e_s3, Dz.e_v4, Dz.e_s4, Dz.e_v5, Dz.e_s5, Dz.e_v6, Dz.e_s6, Dz.e_v7, Dz.e_s7, Dz.e_v8, Dz.e_s8, Dz.e_v9, Dz.e_s9, Dz.e_v10, Dz.e_s10, Dz.e_v11, Dz.e_s11, Dz.e_v12, Dz.e_s12, Dz.e_v13, Dz.e_s13, Dz.e_v14, Dz.e_s14, Dz.e_v15, Dz.e_s15, Dz.e_v16, Dz.e_s16, Dz.e_v17, Dz.e_s17, Dz.e_v18, Dz.e_s18, Dz.e_v19, Dz.e_s19, Dz.e_v20, Dz.e_s20, Dz.e_v21, Dz.e_s21, Dz.e_v22, Dz.e_s22, Dz.e_v23, Dz.e_s23, Dz.e_v24, Dz.e_s24, Dz.e_v25, Dz.e_s25, Dz.e_c, Dz.e_bin, Dz.e_un, Dz.e_test, Dz.e_tru, Dz.e_and, Dz.e_or, Dz.e_not, Dz.e_yes, Dz.e_andV, Dz.e_orV, Dz.e_notV, Dz.e_orT, Dz.e_andT, Dz.e_if, Dz.e_nil, Dz.e_cons, Dz.e_tup, Dz.e_lst, Dz.e_call, Dz.e_fn, Dz.e_chain, Dz.e_noP, Dz.e_part, Dz.e_sl, Dz.e_m1, Dz.e_m0, Dz.e_gv, Dz.e_gt, Dz.e_gc, Dz.e_gn, Dz.e_lc, Dz.e_w0, Dz.e_w1, Dz.e_list, Dz.e_tupI, Dz.e_strI, Dz.tru_bl, Dz.tru_int, Dz.tru_lst, Dz.tru_tup, Dz.tru_str, Dz.len_lst, Dz.len_tup, Dz.len_str, Dz.add_int', Dz.sub_int', Dz.lt_int', Dz.le_int', Dz.gt_int', Dz.ge_int', Dz.eq_int', Dz.ne_int', Dz.eq_str', Dz.ne_str', Dz.asBl_bl, Dz.asStr_str, Dz.asInt_int, Dz.asLst_lst, Dz.asTup_tup, Dz.add_str', Dz.add_lst', Dz.add_tup', Dz.mul_int', Dz.mul_str', Dz.mod_int'', Dz.div_int', Dz.ix_lst', Dz.ix_tup', Dz.ix_str', Dz.sl_lst', Dz.sl_tup', Dz.sl_str', Dz.neg_int', Dz.at0, Dz.at1, Dz.at2, Dz.at3, Dz.at4, Dz.at5, Dz.at6, Dz.at7, Dz.int_int', Dz.int_bl', Dz.tupF_lst, Dz.tupF_tup, Dz.lstF_lst, Dz.lstF_tup, Dz.is_bl', Dz.not_bl', Dz.take_eq, Dz.some_some, Dz.two_eq, List.length_cons, List.length_nil, List.map_cons, List.map_nil, List.append_nil, List.cons_append, List.nil_append, Nat.reduceAdd, Nat.reduceSub, Nat.reduceLeDiff, Nat.zero_add, Int.toNat_natCast, if_true, if_false, Bool.false_eq_true, Bool.not_true, Bool.not_false, true_and, and_true, ite_true, ite_false, Dz.e_fld, Dz.obj_f, Dz.e_meth, Dz.is_obj, Dz.e_make, Dz.e_own1, Dz.e_ownIn, Dz.is_c, Dz.e_star, Dz.sq_lst, Dz.sq_tup, Dz.isL_lst, Dz.e_zip2, Dz.e_enum, Dz.e_sortSet, Dz.own_own, Dz.e_sown, Dz.e_sapp, Dz.e_sput, Dz.e_sins, Dz.e_sext, Dz.e_sfrz, Dz.e_ixo, Dz.e_truo, Dz.slf_slf, Dz.e_sslf, Dz.e_mslf, Dz.e_runI2, Dz.max2, Dz.min2, Dz.e_not, Dz.e_isiT, Dz.isi_lst_lt, Dz.isi_tup_lt, List.getElem?_cons_zero, List.getElem?_cons_succ, isi_non_int, isi_non_bool, isi_non_str, isi_non_tuple, isi_non_list, isi_non_dict, isi_bl_int, isi_bl_bool, isi_bl_str, isi_bl_tuple, isi_bl_list, isi_bl_dict, isi_int_int, isi_int_bool, isi_int_str, isi_int_tuple, isi_int_list, isi_int_dict, isi_str_int, isi_str_bool, isi_str_str, isi_str_tuple, isi_str_list, isi_str_dict, isi_tup_int, isi_tup_bool, isi_tup_str, isi_tup_tuple, isi_tup_list, isi_tup_dict, isi_lst_int, isi_lst_bool, isi_lst_str, isi_lst_tuple, isi_lst_list, isi_lst_dict, isi_dic_int, isi_dic_bool, isi_dic_str, isi_dic_tuple, isi_dic_list, isi_dic_dict]
    simp only [List.length_cons] at e
    refine ⟨by decide, by rw [sps_len]; exact Nat.lt_of_lt_of_le (show kept.length < 100000 by omega) (by decide), ?_⟩
    refine hN _ ⟨kept ++ [(i, capI j)], .val d, .val (.int g), .val (.int i), .val (.int j), ?_, by simp; omega, fun q hq => ?_⟩
    · rw [sps_app]; rfl
    · rcases List.mem_append.mp hq with hq | hq
      · exact k q hq
      · rw [List.mem_singleton.mp hq]
        exact ⟨hi.1, hi.2, (capI_in j).1, (capI_in j).2⟩
end K23

namespace K23
open PySem PySem.Spec PyProof.Rows L2 Dz DY
/-! texts -/
def oin : Option Int → Prop
  | none => True
  | some i => 0 ≤ i ∧ i ≤ 1000000000
theorem log_small {i : Int} (h : 0 ≤ i ∧ i ≤ 2000000000) : i.natAbs.log2 < 1920 := by
  have : i.natAbs.log2 < 32 := by
    by_cases z : i.natAbs = 0
    · rw [z]; decide
    · exact (Nat.log2_lt z).mpr (by omega)
  omega
theorem log_small32 {i : Int} (h : 0 ≤ i ∧ i ≤ 2000000000) : i.natAbs.log2 < 32 := by
  by_cases z : i.natAbs = 0
  · rw [z]; decide
  · exact (Nat.log2_lt z).mpr (by omega)
theorem oD_facts (o : Option Int) (h : oin o) : (oD o).pl = true ∧ (oD o).py.showable = true ∧ (oD o).py.depth = 0 ∧ (oD o).py.leavesShort 13 = true ∧ (oD o).py.weight ≤ 100 := by
  cases o with
  | none => exact ⟨rfl, rfl, rfl, rfl, by decide⟩
  | some i =>
    refine ⟨rfl, ?_, rfl, ?_, ?_⟩
    · show decide (i.natAbs.log2 < 1920) = true
      exact decide_eq_true (log_small ⟨h.1, by have := h.2; omega⟩)
    · show decide _ = true
      exact decide_eq_true (PyData.shown_int_le (by have := h.1; have := h.2; omega))
    · show PyData.weight (.int i) ≤ 100
      have := log_small32 (i := i) ⟨h.1, by have := h.2; omega⟩
      simp only [PyData.weight]
      split <;> omega
theorem rep1 (o : Option Int) (h : oin o) (Q : D → Prop) (q : Q (.str (oD o).py.shown)) : reprG [oD o] Q := by
  obtain ⟨h1, h2, h3, h4, h5⟩ := oD_facts o h
  refine ⟨⟨by rw [h1]; rfl, h2, by omega, PyData.shown_fits (B := 13) (by omega) (by omega) h4 (by omega)⟩, q⟩
theorem rep2 (o1 o2 : Option Int) (g1 : oin o1) (g2 : oin o2) (Q : D → Prop) (q : Q (.str (D.lst [oD o1, oD o2]).py.shown)) : reprG [.lst [oD o1, oD o2]] Q := by
  obtain ⟨h1, h2, h3, h4, h5⟩ := oD_facts o1 g1
  obtain ⟨k1, k2, k3, k4, k5⟩ := oD_facts o2 g2
  refine ⟨⟨?_, ?_, ?_, PyData.shown_fits (B := 13) (by omega) (by omega) ?_ ?_⟩, q⟩
  · simp only [D.pl, D.plAll, h1, k1]; rfl
  · simp only [D.py, D.pyAll, PyData.showable, PyData.showableAll, h2, k2]; rfl
  · simp only [D.py, D.pyAll, PyData.depth, PyData.depthAll, h3, k3]; decide
  · simp only [D.py, D.pyAll, PyData.leavesShort, PyData.leavesShortAll, h4, k4]; rfl
  · simp only [D.py, D.pyAll, PyData.weight, PyData.weightAll]; omega
theorem ne_same (x : Str) (Q : D → Prop) : neF (.str x) (.str x) Q = Q (.bl false) := by
  show Q (.bl (!(x == x))) = _
  simp
theorem oin_of {P : Int → Bool} {d : Int} (hd : -1 ≤ d) {r : Option Int} (h : First P d r) : oin r := by
  cases r with
  | none => trivial
  | some x =>
    have t : top = 1000000000 := rfl
    exact ⟨by have := h.1; omega, by have := h.2.1; omega⟩
/-! the text of days -/
theorem nol_sps (F : List (Int × Int)) : D.nolFs [("_spans", .tup (sps F))] = true := by
  have : D.nolAll (sps F) = true := by
    induction F with
    | nil => simp only [sps, List.map_nil, D.nolAll]
    | cons p F ih => rw [sps_cons, D.nolAll, ih]; simp only [pr, D.nol, D.nolAll, Bool.and_self]
  simp only [D.nolFs, D.nol, this, Bool.and_self]
def rows (F : List (Int × Int)) : List (List Int) := F.map fun p => [p.1, p.2]
theorem rows_sps (F : List (Int × Int)) : sps F = (rows F).map tupI := by
  unfold sps rows
  rw [List.map_map]; rfl
theorem row_len (p : Int × Int) (h : 0 ≤ p.1 ∧ p.1 ≤ top ∧ 0 ≤ p.2 ∧ p.2 ≤ top) : (rowText [p.1, p.2]).length ≤ 50 := by
  have t : top = 1000000000 := rfl
  have l := tupleText_len_le [(toString p.1 : Str), (toString p.2 : Str)]
  have a := PyData.shown_int_le (i := p.1) (by omega)
  have b := PyData.shown_int_le (i := p.2) (by omega)
  have e : ([(toString p.1 : Str), (toString p.2 : Str)].map (·.length)).sum = (PyData.shown (.int p.1)).length + ((PyData.shown (.int p.2)).length + 0) := rfl
  rw [e] at l
  show (tupleText [(toString p.1 : Str), (toString p.2 : Str)]).length ≤ 50
  simp only [List.length_cons, List.length_nil] at l
  omega
theorem sum_len (F : List (Int × Int)) (h : Inr F) : (((rows F).map rowText).map (·.length)).sum ≤ 50 * F.length := by
  induction F with
  | nil => exact Nat.le_refl _
  | cons p F ih =>
    have i := ih fun q hq => h q (List.mem_cons_of_mem _ hq)
    have l := row_len p (h p List.mem_cons_self)
    show (rowText [p.1, p.2]).length + (((rows F).map rowText).map (·.length)).sum ≤ _
    rw [List.length_cons]
    omega
theorem rows_len (F : List (Int × Int)) (h : Inr F) (hl : F.length ≤ 60) : (rowsText (rows F)).length ≤ 4000 := by
  have a := listText_len_le ((rows F).map rowText)
  have b := sum_len F h
  rw [List.length_map] at a
  have c : (rows F).length = F.length := List.length_map _
  unfold rowsText
  omega
def daysText (F : List (Int × Int)) : Str := Str.empty ++ Str.ofString "Days(" ++ rowsText (rows F) ++ Str.ofString ")"
theorem daysText_len (F : List (Int × Int)) (h : Inr F) (hl : F.length ≤ 60) : (daysText F).length ≤ 4100 := by
  have := rows_len F h hl
  unfold daysText
  rw [strLen_append, strLen_append, strLen_append]
  have e1 : Str.empty.length = 0 := rfl
  have e2 : (Str.ofString "Days(").length = 5 := rfl
  have e3 : (Str.ofString ")").length = 1 := rfl
  omega
theorem spansM_spec (c : Cs) (F : List (Int × Int)) (hl : F.length ≤ 1000) (Q : D → Prop) (h : Q (.lst (sps F))) : m_Days_spans c [dO c F] Q := by
  unfold m_Days_spans dO
  simp -implicitDefEqProofs only [Dz.e_rng1, Dz.e_rngQ, Dz.e_seq, Dz.e_next, Dz.e_brk, Dz.e_cont, Dz.e_drop, Dz.e_ifS, Dz.e_asg, Dz.e_par, Dz.e_ret, Dz.e_retN, Dz.e_for, Dz.e_run1, Dz.e_run2, Dz.e_run3, Dz.e_run4, Dz.e_run5, Dz.e_run6, Dz.e_run7, Dz.e_run8, Dz.e_rep0, Dz.e_rep1, Dz.e_rep2, Dz.e_rep3, Dz.e_rep4, Dz.e_rep5, Dz.e_rep6, Dz.e_rep7, Dz.e_rep8, Dz.e_rep9, Dz.e_rep10, Dz.e_rep11, Dz.e_rep12, Dz.e_rep13, Dz.e_rep14, Dz.e_rep15, Dz.e_rep16, Dz.e_rep17, Dz.e_rep18, Dz.e_rep19, Dz.e_rep20, Dz.e_rep21, Dz.e_rep22, Dz.e_rep23, Dz.e_rep24, Dz.e_rep25, Dz.e_v0, Dz.e_s0, Dz.e_v1, Dz.e_s1, Dz.e_v2, Dz.e_s2, Dz.e_v3, Dz.e_s3, Dz.e_v4, Dz.e_s4, Dz.e_v5, Dz.e_s5, Dz.e_v6, Dz.e_s6, Dz.e_v7, Dz.e_s7, Dz.e_v8, Dz.e_s8, Dz.e_v9, Dz.e_s9, Dz.e_v10, Dz.e_s10, Dz.e_v11, Dz.e_s11, Dz.e_v12, Dz.e_s12, Dz.e_v13, Dz.e_s13, Dz.e_v14, Dz.e_s14, Dz.e_v15, Dz.e_s15, Dz.e_v16, Dz.e_s16, Dz.e_v17, Dz.e_s17, Dz.e_v18, Dz.e_s18, Dz.e_v19, Dz.e_s19, Dz.e_v20, Dz.e_s20, Dz.e_v21, Dz.e_s21, Dz.e_v22, Dz.e_s22, Dz.e_v23, Dz.e_s23, Dz.e_v24, Dz.e_s24, Dz.e_v25, Dz.e_s25, Dz.e_c, Dz.e_bin, Dz.e_un, Dz.e_test, Dz.e_tru, Dz.e_and, Dz.e_or, Dz.e_not, Dz.e_yes, Dz.e_andV, Dz.e_orV, Dz.e_notV, Dz.e_orT, Dz.e_andT, Dz.e_if, Dz.e_nil, Dz.e_cons, Dz.e_tup, Dz.e_lst, Dz.e_call, Dz.e_fn, Dz.e_chain, Dz.e_noP, Dz.e_part, Dz.e_sl, Dz.e_m1, Dz.e_m0, Dz.e_gv, Dz.e_gt, Dz.e_gc, Dz.e_gn, Dz.e_lc, Dz.e_w0, Dz.e_w1, Dz.e_list, Dz.e_tupI, Dz.e_strI, Dz.tru_bl, Dz.tru_int, Dz.tru_lst, Dz.tru_tup, Dz.tru_str, Dz.len_lst, Dz.len_tup, Dz.len_str, Dz.add_int', Dz.sub_int', Dz.lt_int', Dz.le_int', Dz.gt_int', Dz.ge_int', Dz.eq_int', Dz.ne_int', Dz.eq_str', Dz.ne_str', Dz.asBl_bl, Dz.asStr_str, Dz.asInt_int, Dz.asLst_lst, Dz.asTup_tup, Dz.add_str', Dz.add_lst', Dz.add_tup', Dz.mul_int', Dz.mul_str', Dz.mod_int'', Dz.div_int', Dz.ix_lst', Dz.ix_tup', Dz.ix_str', Dz.sl_lst', Dz.sl_tup', Dz.sl_str', Dz.neg_int', Dz.at0, Dz.at1, Dz.at2, Dz.at3, Dz.at4, Dz.at5, Dz.at6, Dz.at7, Dz.int_int', Dz.int_bl', Dz.tupF_lst, Dz.tupF_tup, Dz.lstF_lst, Dz.lstF_tup, Dz.is_bl', Dz.not_bl', Dz.take_eq, Dz.some_some, Dz.two_eq, List.length_cons, List.length_nil, List.map_cons, List.map_nil, List.append_nil, List.cons_append, List.nil_append, Nat.reduceAdd, Nat.reduceSub, Nat.reduceLeDiff, Nat.zero_add, Int.toNat_natCast, if_true, if_false, Bool.false_eq_true, Bool.not_true, Bool.not_false, true_and, and_true, ite_true, ite_false, Dz.e_fld, Dz.obj_f, Dz.e_meth, Dz.is_obj, Dz.e_make, Dz.e_own1, Dz.e_ownIn, Dz.is_c, Dz.e_star, Dz.sq_lst, Dz.sq_tup, Dz.isL_lst, Dz.e_zip2, Dz.e_enum, Dz.e_sortSet, Dz.own_own, Dz.e_sown, Dz.e_sapp, Dz.e_sput, Dz.e_sins, Dz.e_sext, Dz.e_sfrz, Dz.e_ixo, Dz.e_truo, Dz.slf_slf, Dz.e_sslf, Dz.e_mslf, Dz.e_runI2, Dz.max2, Dz.min2, Dz.e_not, Dz.e_isiT, Dz.isi_lst_lt, Dz.isi_tup_lt, List.getElem?_cons_zero, List.getElem?_cons_succ, isi_non_int, isi_non_bool, isi_non_str, isi_non_tuple, isi_non_list, isi_non_dict, isi_bl_int, isi_bl_bool, isi_bl_str, isi_bl_tuple, isi_bl_list, isi_bl_dict, isi_int_int, isi_int_bool, isi_int_str, isi_int_tuple, isi_int_list, isi_int_dict, isi_str_int, isi_str_bool, isi_str_str, isi_str_tuple, isi_str_list, isi_str_dict, isi_tup_int, isi_tup_bool, isi_tup_str, isi_tup_tuple, isi_tup_list, isi_tup_dict, isi_lst_int, isi_lst_bool, isi_lst_str, isi_lst_tuple, isi_lst_list, isi_lst_dict, isi_dic_int, isi_dic_bool, isi_dic_str, isi_dic_tuple, isi_dic_list, isi_dic_dict, look_s]
  first
  | exact h
  | exact ⟨by rw [sps_len]; exact size_le (by omega), h⟩
theorem repr_spec (c : Cs) (F : List (Int × Int)) (hr : Inr F) (hl : F.length ≤ 60) (Q : D → Prop) (h : Q (.str (daysText F))) : m_Days___repr__ c [dO c F] Q := by
  have := rows_len F hr hl
  refine ⟨rfl, nol_sps F, rfl, rows F, spansM_spec c F (by omega) _ (by rw [rows_sps]), fun n hn i hi => ?_, ?_, h⟩
  · obtain ⟨p, hp, rfl⟩ := List.mem_map.mp hn
    have b := hr p hp
    have t : top = 1000000000 := rfl
    have : i = p.1 ∨ i = p.2 := by simpa using hi
    rcases this with rfl | rfl <;> exact log_small (by omega)
  · have e2 : (Str.ofString "Days(").length = 5 := rfl
    have e3 : (Str.ofString ")").length = 1 := rfl
    rw [e2, e3]
    exact size_le (by omega)
end K23

namespace K23
open PySem PySem.Spec PyProof.Rows L2 Dz DY
theorem comp_relL {α β : Type} {me : ME} {ρ : Rho} {j : Nat} (g : α → D) (h : β → D) (R : α → β → Prop) : ∀ (l : List α) (Q : List D → Prop), (∀ a ∈ l, ∀ Q : D → Prop, (∀ y, R a y → Q (h y)) → me (ρ.set j (.val (g a))) Q) →
    (∀ zs : List (α × β), zs.map (·.1) = l → (∀ z ∈ zs, R z.1 z.2) → Q (zs.map fun z => h z.2)) → compM (gvName j) mYes me ρ (l.map g) Q
  | [], Q, _, q => q [] rfl fun z hz => by cases hz
  | d :: ds, Q, hh, q => by
    show me (ρ.set j (.val (g d))) fun y => compM (gvName j) mYes me ρ (ds.map g) fun ys => Q (y :: ys)
    refine hh d List.mem_cons_self _ fun y hy => comp_relL g h R ds _ (fun e he => hh e (List.mem_cons_of_mem _ he)) fun zs e hz => ?_
    refine q ((d, y) :: zs) (by rw [List.map_cons, e]) fun z hm => ?_
    rcases List.mem_cons.mp hm with rfl | hm
    · exact hy
    · exact hz z hm
theorem few_of {L : List Int} : ∀ {M : List Int}, L.Pairwise (· < ·) → (∀ x ∈ L, x ∈ M) → L.length ≤ M.length := by
  induction L with
  | nil => intro M _ _; exact Nat.zero_le _
  | cons x L ih =>
    intro M hs hm
    have hx := hm x List.mem_cons_self
    have := ih (M := M.erase x) (List.pairwise_cons.mp hs).2 fun y hy => by
      have := (List.pairwise_cons.mp hs).1 y hy
      exact (List.mem_erase_of_ne (by omega)).mpr (hm y (List.mem_cons_of_mem _ hy))
    rw [List.length_erase_of_mem hx] at this
    have := List.length_pos_of_mem hx
    rw [List.length_cons]
    omega
theorem points_len (S : List (Int × Int)) : (points S).length = 1 + 2 * S.length := by
  unfold points
  rw [List.length_cons]
  have : (S.flatMap fun p => [p.1, p.2 + 1]).length = 2 * S.length := by
    induction S with
    | nil => rfl
    | cons p S ih => rw [List.flatMap_cons, List.length_append, ih, List.length_cons]; simp; omega
  omega
theorem ms_len {S : List (Int × Int)} {ms : List Int} (hl : S.length ≤ 8) (h1 : ms.Pairwise (· < ·)) (h2 : ∀ k, k ∈ ms ↔ k ∈ points S ∧ k ≤ top) : ms.length ≤ 20 := by
  have := few_of h1 fun x hx => ((h2 x).mp hx).1
  rw [points_len] at this
  omega
/-- spans and the days of them -/
structure Good (S F : List (Int × Int)) : Prop where
  inS : Inr S
  lenS : S.length ≤ 8
  can : Canon F
  inF : Inr F
  same : ∀ x, has F x = has S x
  lenF : F.length ≤ 8
theorem bey_head {F : List (Int × Int)} (hc : Canon F) (hr : Inr F) : bey F (-1) = F.head?.map (·.1) := by
  cases F with
  | nil => rfl
  | cons p F =>
    have h := hr p List.mem_cons_self
    have kb : bey (p :: F) (-1) = if -1 < p.2 then some (if -1 + 1 > p.1 then -1 + 1 else p.1) else bey F (-1) := rfl
    rw [kb, if_pos (by omega), if_neg (by omega)]
    rfl
theorem Good.first {S F : List (Int × Int)} (g : Good S F) : First (has S) (-1) (F.head?.map (·.1)) := by
  rw [← bey_head g.can g.inF]
  exact (bey_first (-1) g.can g.inF).congr fun x _ _ => g.same x
theorem Good.early {S F : List (Int × Int)} (g : Good S F) (ms : List Int) (h1 : ms.Pairwise (· < ·)) (h2 : ∀ k, k ∈ ms ↔ k ∈ points S ∧ k ≤ top) : (ms.filter fun x => has S x).head? = F.head?.map (·.1) := by
  refine First.uniq ?_ g.first
  have mem : ∀ x, x ∈ ms.filter (fun x => has S x) ↔ (x ∈ points S ∧ x ≤ top) ∧ has S x = true := fun x => by rw [List.mem_filter, h2]
  have low : ∀ x, has S x = true → 0 ≤ x := fun x hx => by
    obtain ⟨p, hp, q⟩ := has_iff.mp hx
    have := g.inS p hp
    omega
  have cand : ∀ x, -1 < x → x ≤ top → has S x = true → (x = -1 + 1 ∨ has S (x - 1) = false) → x ∈ ms.filter (fun x => has S x) := fun x x1 x2 x3 x4 => by
    refine (mem x).mpr ⟨⟨?_, x2⟩, x3⟩
    rcases x4 with x4 | x4
    · have : x = 0 := by omega
      rw [this]; exact List.mem_cons_self
    · exact turns (by rw [x3, x4]; simp)
  have sorted := h1.filter (fun x => has S x)
  cases e : ms.filter (fun x => has S x) with
  | nil =>
    refine first_of (C := fun x => x ∈ ms.filter (fun x => has S x)) cand fun x x1 x2 x3 => ?_
    rw [e] at x3; cases x3
  | cons y L =>
    rw [e] at sorted
    have hy := (mem y).mp (by rw [e]; exact List.mem_cons_self)
    refine first_of (C := fun x => x ∈ ms.filter (fun x => has S x)) cand ⟨by have := low y hy.2; omega, hy.1.2, hy.2, fun z z1 z2 z3 z4 => ?_⟩
    rw [e] at z3
    rcases List.mem_cons.mp z3 with rfl | z3
    · exact Int.le_refl _
    · have := (List.pairwise_cons.mp sorted).1 z z3
      omega
def lS (S : List (Int × Int)) : D := .lst (sps S)
def St (ρ : Rho) : Prop := ∃ x0 x2 x3 x4 x5 x6 x7 x8 x9 x10 x11 x12 x13 x14 x15 x16 x17, ρ = [x0, Slot.val .bag, x2, x3, x4, x5, x6, x7, x8, x9, x10, x11, x12, x13, x14, x15, x16, x17]
def allText (zs : List (List (Int × Int) × List (Int × Int))) : Str := listText (zs.map fun z => daysText z.2)
theorem reprI_spec (c : Cs) (zs : List (List (Int × Int) × List (Int × Int))) (gz : ∀ z ∈ zs, Good z.1 z.2) (zl : zs.length = 3) (x0 x1 x2 x3 x4 x6 x7 x8 x9 x10 x11 x12 x13 x14 x15 x16 x17 : Slot) (Q : D → Prop) (h : Q (.str (allText zs))) :
    mReprI c.Days (m_Days___repr__ c) (mCons (mVar 5) mNil) [x0, x1, x2, x3, x4, Slot.val (.lst (zs.map fun z => dO c z.2)), x6, x7, x8, x9, x10, x11, x12, x13, x14, x15, x16, x17] Q := by
  unfold mReprI
  simp -implicitDefEqProofs only [Dz.e_rng1, Dz.e_rngQ, Dz.e_seq, Dz.e_next, Dz.e_brk, Dz.e_cont, Dz.e_drop, Dz.e_ifS, Dz.e_asg, Dz.e_par, Dz.e_ret, Dz.e_retN, Dz.e_for, Dz.e_run1, Dz.e_run2, Dz.e_run3, Dz.e_run4, Dz.e_run5, Dz.e_run6, Dz.e_run7, Dz.e_run8, Dz.e_rep0, Dz.e_rep1, Dz.e_rep2, Dz.e_rep3, Dz.e_rep4, Dz.e_rep5, Dz.e_rep6, Dz.e_rep7, Dz.e_rep8, Dz.e_rep9, Dz.e_rep10, Dz.e_rep11, Dz.e_rep12, Dz.e_rep13, Dz.e_rep14, Dz.e_rep15, Dz.e_rep16, Dz.e_rep17, Dz.e_rep18, Dz.e_rep19, Dz.e_rep20, Dz.e_rep21, Dz.e_rep22, Dz.e_rep23, Dz.e_rep24, Dz.e_rep25, Dz.e_v0, Dz.e_s0, Dz.e_v1, Dz.e_s1, Dz.e_v2, Dz.e_s2, Dz.e_v3, Dz.e_s3, Dz.e_v4, Dz.e_s4, Dz.e_v5, Dz.e_s5, Dz.e_v6, Dz.e_s6, Dz.e_v7, Dz.e_s7, Dz.e_v8, Dz.e_s8, Dz.e_v9, Dz.e_s9, Dz.e_v10, Dz.e_s10, Dz.e_v11, Dz.e_s11, Dz.e_v12, Dz.e_s12, Dz.e_v13, Dz.e_s13, Dz.e_v14, Dz.e_s14, Dz.e_v15, Dz.e_s15, Dz.e_v16, Dz.e_s16, Dz.e_v17, Dz.e_s17, Dz.e_v18, Dz.e_s18, Dz.e_v19, Dz.e_s19, Dz.e_v20, Dz.e_s20, Dz.e_v21, Dz.e_s21, Dz.e_v22, Dz.e_s22, Dz.e_v23, Dz.e_s23, Dz.e_v24, Dz.e_s24, Dz.e_v25, Dz.e_s25, Dz.e_c, Dz.e_bin, Dz.e_un, Dz.e_test, Dz.e_tru, Dz.e_and, Dz.e_or, Dz.e_not, Dz.e_yes, Dz.e_andV, Dz.e_orV, Dz.e_notV, Dz.e_orT, Dz.e_andT, Dz.e_if, Dz.e_nil, Dz.e_cons, Dz.e_tup, Dz.e_lst, Dz.e_call, Dz.e_fn, Dz.e_chain, Dz.e_noP, Dz.e_part, Dz.e_sl, Dz.e_m1, Dz.e_m0, Dz.e_gv, Dz.e_gt, Dz.e_gc, Dz.e_gn, Dz.e_lc, Dz.e_w0, Dz.e_w1, Dz.e_list, Dz.e_tupI, Dz.e_strI, Dz.tru_bl, Dz.tru_int, Dz.tru_lst, Dz.tru_tup, Dz.tru_str, Dz.len_lst, Dz.len_tup, Dz.len_str, Dz.add_int', Dz.sub_int', Dz.lt_int', Dz.le_int', Dz.gt_int', Dz.ge_int', Dz.eq_int', Dz.ne_int', Dz.eq_str', Dz.ne_str', Dz.asBl_bl, Dz.asStr_str, Dz.asInt_int, Dz.asLst_lst, Dz.asTup_tup, Dz.add_str', Dz.add_lst', Dz.add_tup', Dz.mul_int', Dz.mul_str', Dz.mod_int'', Dz.div_int', Dz.ix_lst', Dz.ix_tup', Dz.ix_str', Dz.sl_lst', Dz.sl_tup', Dz.sl_str', Dz.neg_int', Dz.at0, Dz.at1, Dz.at2, Dz.at3, Dz.at4, Dz.at5, Dz.at6, Dz.at7, Dz.int_int', Dz.int_bl', Dz.tupF_lst, Dz.tupF_tup, Dz.lstF_lst, Dz.lstF_tup, Dz.is_bl', Dz.not_bl', Dz.take_eq, Dz.some_some, Dz.two_eq, List.length_cons, List.length_nil, List.map_cons, List.map_nil, List.append_nil, List.cons_append, List.nil_append, Nat.reduceAdd, Nat.reduceSub, Nat.reduceLeDiff, Nat.zero_add, Int.toNat_natCast, if_true, if_false, Bool.false_eq_true, Bool.not_true, Bool.not_false, true_and, and_true, ite_true, ite_false, Dz.e_fld, Dz.obj_f, Dz.e_meth, Dz.is_obj, Dz.e_make, Dz.e_own1, Dz.e_ownIn, Dz.is_c, Dz.e_star, Dz.sq_lst, Dz.sq_tup, Dz.isL_lst, Dz.e_zip2, Dz.e_enum, Dz.e_sortSet, Dz.own_own, Dz.e_sown, Dz.e_sapp, Dz.e_sput, Dz.e_sins, Dz.e_sext, Dz.e_sfrz, Dz.e_ixo, Dz.e_truo, Dz.slf_slf, Dz.e_sslf, Dz.e_mslf, Dz.e_runI2, Dz.max2, Dz.min2, Dz.e_not, Dz.e_isiT, Dz.isi_lst_lt, Dz.isi_tup_lt, List.getElem?_cons_zero, List.getElem?_cons_succ, isi_non_int, isi_non_bool, isi_non_str, isi_non_tuple, isi_non_list, isi_non_dict, isi_bl_int, isi_bl_bool, isi_bl_str, isi_bl_tuple, isi_bl_list, isi_bl_dict, isi_int_int, isi_int_bool, isi_int_str, isi_int_tuple, isi_int_list, isi_int_dict, isi_str_int, isi_str_bool, isi_str_str, isi_str_tuple, isi_str_list, isi_str_dict, isi_tup_int, isi_tup_bool, isi_tup_str, isi_tup_tuple, isi_tup_list, isi_tup_dict, isi_lst_int, isi_lst_bool, isi_lst_str, isi_lst_tuple, isi_lst_list, isi_lst_dict, isi_dic_int, isi_dic_bool, isi_dic_str, isi_dic_tuple, isi_dic_list, isi_dic_dict]
  unfold allText at h
  refine ⟨fun e => ?_, fun x hx => ?_, zs.map fun z => daysText z.2, ?_, ?_, fun i x t hx ht => ?_, ?_⟩
  · have := congrArg List.length e
    rw [List.length_map, zl] at this
    cases this
  · obtain ⟨z, hz, rfl⟩ := List.mem_map.mp hx
    exact ⟨_, rfl⟩
  · rw [List.length_map, List.length_map]
  · have a := listText_len_le (zs.map fun z => daysText z.2)
    rw [List.length_map, zl] at a
    have b : ((zs.map fun z => daysText z.2).map (·.length)).sum ≤ 3 * 4100 := by
      match zs, zl, gz with
      | [z1, z2, z3], _, gz =>
        have l1 := daysText_len z1.2 (gz z1 (by simp)).inF (by have := (gz z1 (by simp)).lenF; omega)
        have l2 := daysText_len z2.2 (gz z2 (by simp)).inF (by have := (gz z2 (by simp)).lenF; omega)
        have l3 := daysText_len z3.2 (gz z3 (by simp)).inF (by have := (gz z3 (by simp)).lenF; omega)
        simp only [List.map_cons, List.map_nil, List.sum_cons, List.sum_nil]
        omega
    exact size_le (by omega)
  · rw [List.getElem?_map] at hx ht
    cases e : zs[i]? with
    | none => rw [e] at hx; cases hx
    | some z =>
      rw [e] at hx ht
      cases hx
      cases ht
      have g := gz z (List.mem_of_getElem? e)
      exact repr_spec c z.2 g.inF (by have := g.lenF; omega) _ rfl
  · exact h
theorem Good.two {S F : List (Int × Int)} (g : Good S F) {d : Int} {r r' : Option Int} (h : First (fun x => has F x == !has F d) d r) (h' : First (fun x => has S x == !has S d) d r') : r = r' :=
  First.uniq (h.congr fun x _ _ => by rw [g.same, g.same]) h'
theorem Good.one {S F : List (Int × Int)} (g : Good S F) {d : Int} {r' : Option Int} (h' : First (fun x => has S x == true) d r') : bey F d = r' :=
  First.uniq ((bey_first d g.can g.inF).congr fun x _ _ => by rw [g.same]; simp) h'
def St2 (c : Cs) (zs : List (List (Int × Int) × List (Int × Int))) (ρ : Rho) : Prop := ∃ x0 x2 x4 x6 x7 x8 x9 x10 x11 x13 x14 x15 x16 x17, ρ = [x0, Slot.val .bag, x2, .val (.lst (zs.map fun z => lS z.1)), x4, .val (.lst (zs.map fun z => dO c z.2)), x6, x7, x8, x9, x10, x11, .val (.str (allText zs)), x13, x14, x15, x16, x17]
def pz (c : Cs) (z : List (Int × Int) × List (Int × Int)) : D := .tup [lS z.1, dO c z.2]
theorem zip_map (c : Cs) (zs : List (List (Int × Int) × List (Int × Int))) : zipD (zs.map fun z => lS z.1) (zs.map fun z => dO c z.2) = zs.map (pz c) := by
  induction zs with
  | nil => rfl
  | cons z zs ih => show D.tup [lS z.1, dO c z.2] :: zipD (zs.map fun z => lS z.1) (zs.map fun z => dO c z.2) = _; rw [ih]; rfl
theorem head_spec (L : List Int) (P : D → Prop) (h : P (oD L.head?)) : someD (atI (L.map D.int ++ [.non]) 0) P := by
  cases L with
  | nil => exact h
  | cons x L =>
    rw [atI_int (v := D.int x) (Int.le_refl _) rfl]
    exact h
def St3 (c : Cs) (zs : List (List (Int × Int) × List (Int × Int))) (z : List (Int × Int) × List (Int × Int)) (ms : List Int) (x16 : Slot) (ρ : Rho) : Prop := ∃ x0 x2 x4 x7 x8 x9 x11 x13 x15 x17, ρ = [x0, Slot.val .bag, x2, .val (.lst (zs.map fun z => lS z.1)), x4, .val (.lst (zs.map fun z => dO c z.2)), .val (lS z.1), x7, x8, x9, .val (.lst (ms.map D.int)), x11, .val (.str (allText zs)), x13, .val (dO c z.2), x15, x16, x17]
theorem law_spec (c : Cs) : m_law c {nx := fun _ => False, rt := fun d => d = .bl true} law0 := by
  unfold m_law law0
  simp -implicitDefEqProofs only [Dz.e_rng1, Dz.e_rngQ, Dz.e_seq, Dz.e_next, Dz.e_brk, Dz.e_cont, Dz.e_drop, Dz.e_ifS, Dz.e_asg, Dz.e_par, Dz.e_ret, Dz.e_retN, Dz.e_for, Dz.e_run1, Dz.e_run2, Dz.e_run3, Dz.e_run4, Dz.e_run5, Dz.e_run6, Dz.e_run7, Dz.e_run8, Dz.e_rep0, Dz.e_rep1, Dz.e_rep2, Dz.e_rep3, Dz.e_rep4, Dz.e_rep5, Dz.e_rep6, Dz.e_rep7, Dz.e_rep8, Dz.e_rep9, Dz.e_rep10, Dz.e_rep11, Dz.e_rep12, Dz.e_rep13, Dz.e_rep14, Dz.e_rep15, Dz.e_rep16, Dz.e_rep17, Dz.e_rep18, Dz.e_rep19, Dz.e_rep20, Dz.e_rep21, Dz.e_rep22, Dz.e_rep23, Dz.e_rep24, Dz.e_rep25, Dz.e_v0, Dz.e_s0, Dz.e_v1, Dz.e_s1, Dz.e_v2, Dz.e_s2, Dz.e_v3, Dz.e_s3, Dz.e_v4, Dz.e_s4, Dz.e_v5, Dz.e_s5, Dz.e_v6, Dz.e_s6, Dz.e_v7, Dz.e_s7, Dz.e_v8, Dz.e_s8, Dz.e_v9, Dz.e_s9, Dz.e_v10, Dz.e_s10, Dz.e_v11, Dz.e_s11, Dz.e_v12, Dz.e_s12, Dz.e_v13, Dz.e_s13, Dz.e_v14, Dz.e_s14, Dz.e_v15, Dz.e_s15, Dz.e_v16, Dz.e_s16, Dz.e_v17, Dz.e_s17, Dz.e_v18, Dz.e_s18, Dz.e_v19, Dz.e_s19, Dz.e_v20, Dz.e_s20, Dz.e_v21, Dz.e_s21, Dz.e_v22, Dz.e_s22, Dz.e_v23, Dz.e_s23, Dz.e_v24, Dz.e_s24, Dz.e_v25, Dz.e_s25, Dz.e_c, Dz.e_bin, Dz.e_un, Dz.e_test, Dz.e_tru, Dz.e_and, Dz.e_or, Dz.e_not, Dz.e_yes, Dz.e_andV, Dz.e_orV, Dz.e_notV, Dz.e_orT, Dz.e_andT, Dz.e_if, Dz.e_nil, Dz.e_cons, Dz.e_tup, Dz.e_lst, Dz.e_call, Dz.e_fn, Dz.e_chain, Dz.e_noP, Dz.e_part, Dz.e_sl, Dz.e_m1, Dz.e_m0, Dz.e_gv, Dz.e_gt, Dz.e_gc, Dz.e_gn, Dz.e_lc, Dz.e_w0, Dz.e_w1, Dz.e_list, Dz.e_tupI, Dz.e_strI, Dz.tru_bl, Dz.tru_int, Dz.tru_lst, Dz.tru_tup, Dz.tru_str, Dz.len_lst, Dz.len_tup, Dz.len_str, Dz.add_int', Dz.sub_int', Dz.lt_int', Dz.le_int', Dz.gt_int', Dz.ge_int', Dz.eq_int', Dz.ne_int', Dz.eq_str', Dz.ne_str', Dz.asBl_bl, Dz.asStr_str, Dz.asInt_int, Dz.asLst_lst, Dz.asTup_tup, Dz.add_str', Dz.add_lst', Dz.add_tup', Dz.mul_int', Dz.mul_str', Dz.mod_int'', Dz.div_int', Dz.ix_lst', Dz.ix_tup', Dz.ix_str', Dz.sl_lst', Dz.sl_tup', Dz.sl_str', Dz.neg_int', Dz.at0, Dz.at1, Dz.at2, Dz.at3, Dz.at4, Dz.at5, Dz.at6, Dz.at7, Dz.int_int', Dz.int_bl', Dz.tupF_lst, Dz.tupF_tup, Dz.lstF_lst, Dz.lstF_tup, Dz.is_bl', Dz.not_bl', Dz.take_eq, Dz.some_some, Dz.two_eq, List.length_cons, List.length_nil, List.map_cons, List.map_nil, List.append_nil, List.cons_append, List.nil_append, Nat.reduceAdd, Nat.reduceSub, Nat.reduceLeDiff, Nat.zero_add, Int.toNat_natCast, if_true, if_false, Bool.false_eq_true, Bool.not_true, Bool.not_false, true_and, and_true, ite_true, ite_false, Dz.e_fld, Dz.obj_f, Dz.e_meth, Dz.is_obj, Dz.e_make, Dz.e_own1, Dz.e_ownIn, Dz.is_c, Dz.e_star, Dz.sq_lst, Dz.sq_tup, Dz.isL_lst, Dz.e_zip2, Dz.e_enum, Dz.e_sortSet, Dz.own_own, Dz.e_sown, Dz.e_sapp, Dz.e_sput, Dz.e_sins, Dz.e_sext, Dz.e_sfrz, Dz.e_ixo, Dz.e_truo, Dz.slf_slf, Dz.e_sslf, Dz.e_mslf, Dz.e_runI2, Dz.max2, Dz.min2, Dz.e_not, Dz.e_isiT, Dz.isi_lst_lt, Dz.isi_tup_lt, List.getElem?_cons_zero, List.getElem?_cons_succ, isi_non_int, isi_non_bool, isi_non_str, isi_non_tuple, isi_non_list, isi_non_dict, isi_bl_int, isi_bl_bool, isi_bl_str, isi_bl_tuple, isi_bl_list, isi_bl_dict, isi_int_int, isi_int_bool, isi_int_str, isi_int_tuple, isi_int_list, isi_int_dict, isi_str_int, isi_str_bool, isi_str_str, isi_str_tuple, isi_str_list, isi_str_dict, isi_tup_int, isi_tup_bool, isi_tup_str, isi_tup_tuple, isi_tup_list, isi_tup_dict, isi_lst_int, isi_lst_bool, isi_lst_str, isi_lst_tuple, isi_lst_list, isi_lst_dict, isi_dic_int, isi_dic_bool, isi_dic_str, isi_dic_tuple, isi_dic_list, isi_dic_dict]
  refine ⟨by decide, by decide, ?_⟩
  refine for_inv (fun rest ρ => St ρ) _ _ ⟨_, _, _, _, _, _, _, _, _, _, _, _, _, _, _, _, _, rfl⟩ (fun ρ hρ => ?_) (fun d ds ρ N hI hN => ?_)
  · obtain ⟨x0, x2, x3, x4, x5, x6, x7, x8, x9, x10, x11, x12, x13, x14, x15, x16, x17, rfl⟩ := hρ
    simp -implicitDefEqProofs only [Dz.e_rng1, Dz.e_rngQ, Dz.e_seq, Dz.e_next, Dz.e_brk, Dz.e_cont, Dz.e_drop, Dz.e_ifS, Dz.e_asg, Dz.e_par, Dz.e_ret, Dz.e_retN, Dz.e_for, Dz.e_run1, Dz.e_run2, Dz.e_run3, Dz.e_run4, Dz.e_run5, Dz.e_run6, Dz.e_run7, Dz.e_run8, Dz.e_rep0, Dz.e_rep1, Dz.e_rep2, Dz.e_rep3, Dz.e_rep4, Dz.e_rep5, Dz.e_rep6, Dz.e_rep7, Dz.e_rep8, Dz.e_rep9, Dz.e_rep10, Dz.e_rep11, Dz.e_rep12, Dz.e_rep13, Dz.e_rep14, Dz.e_rep15, Dz.e_rep16, Dz.e_rep17, Dz.e_rep18, Dz.e_rep19, Dz.e_rep20, Dz.e_rep21, Dz.e_rep22, Dz.e_rep23, Dz.e_rep24, Dz.e_rep25, Dz.e_v0, Dz.e_s0, Dz.e_v1, Dz.e_s1, Dz.e_v2, Dz.e_s2, Dz.e_v3, Dz.e_s3, Dz.e_v4, Dz.e_s4, Dz.e_v5, Dz.e_s5, Dz.e_v6, Dz.e_s6, Dz.e_v7, Dz.e_s7, Dz.e_v8, Dz.e_s8, Dz.e_v9, Dz.e_s9, Dz.e_v10, Dz.e_s10, Dz.e_v11, Dz.e_s11, Dz.e_v12, Dz.e_s12, Dz.e_v13, Dz.e_s13, Dz.e_v14, Dz.e_s14, Dz.e_v15, Dz.e_s15, Dz.e_v16, Dz.e_s16, Dz.e_v17, Dz.e_s17, Dz.e_v18, Dz.e_s18, Dz.e_v19, Dz.e_s19, Dz.e_v20, Dz.e_s20, Dz.e_v21, Dz.e_s21, Dz.e_v22, Dz.e_s22, Dz.e_v23, Dz.e_s23, Dz.e_v24, Dz.e_s24, Dz.e_v25, Dz.e_s25, Dz.e_c, Dz.e_bin, Dz.e_un, Dz.e_test, Dz.e_tru, Dz.e_and, Dz.e_or, Dz.e_not, Dz.e_yes, Dz.e_andV, Dz.e_orV, Dz.e_notV, Dz.e_orT, Dz.e_andT, Dz.e_if, Dz.e_nil, Dz.e_cons, Dz.e_tup, Dz.e_lst, Dz.e_call, Dz.e_fn, Dz.e_chain, Dz.e_noP, Dz.e_part, Dz.e_sl, Dz.e_m1, Dz.e_m0, Dz.e_gv, Dz.e_gt, Dz.e_gc, Dz.e_gn, Dz.e_lc, Dz.e_w0, Dz.e_w1, Dz.e_list, Dz.e_tupI, Dz.e_strI, Dz.tru_bl, Dz.tru_int, Dz.tru_lst, Dz.tru_tup, Dz.tru_str, Dz.len_lst, Dz.len_tup, Dz.len_str, Dz.add_int', Dz.sub_int', Dz.lt_int', Dz.le_int', Dz.gt_int', Dz.ge_int', Dz.eq_int', Dz.ne_int', Dz.eq_str', Dz.ne_str', Dz.asBl_bl, Dz.asStr_str, Dz.asInt_int, Dz.asLst_lst, Dz.asTup_tup, Dz.add_str', Dz.add_lst', Dz.add_tup', Dz.mul_int', Dz.mul_str', Dz.mod_int'', Dz.div_int', Dz.ix_lst', Dz.ix_tup', Dz.ix_str', Dz.sl_lst', Dz.sl_tup', Dz.sl_str', Dz.neg_int', Dz.at0, Dz.at1, Dz.at2, Dz.at3, Dz.at4, Dz.at5, Dz.at6, Dz.at7, Dz.int_int', Dz.int_bl', Dz.tupF_lst, Dz.tupF_tup, Dz.lstF_lst, Dz.lstF_tup, Dz.is_bl', Dz.not_bl', Dz.take_eq, Dz.some_some, Dz.two_eq, List.length_cons, List.length_nil, List.map_cons, List.map_nil, List.append_nil, List.cons_append, List.nil_append, Nat.reduceAdd, Nat.reduceSub, Nat.reduceLeDiff, Nat.zero_add, Int.toNat_natCast, if_true, if_false, Bool.false_eq_true, Bool.not_true, Bool.not_false, true_and, and_true, ite_true, ite_false, Dz.e_fld, Dz.obj_f, Dz.e_meth, Dz.is_obj, Dz.e_make, Dz.e_own1, Dz.e_ownIn, Dz.is_c, Dz.e_star, Dz.sq_lst, Dz.sq_tup, Dz.isL_lst, Dz.e_zip2, Dz.e_enum, Dz.e_sortSet, Dz.own_own, Dz.e_sown, Dz.e_sapp, Dz.e_sput, Dz.e_sins, Dz.e_sext, Dz.e_sfrz, Dz.e_ixo, Dz.e_truo, Dz.slf_slf, Dz.e_sslf, Dz.e_mslf, Dz.e_runI2, Dz.max2, Dz.min2, Dz.e_not, Dz.e_isiT, Dz.isi_lst_lt, Dz.isi_tup_lt, List.getElem?_cons_zero, List.getElem?_cons_succ, isi_non_int, isi_non_bool, isi_non_str, isi_non_tuple, isi_non_list, isi_non_dict, isi_bl_int, isi_bl_bool, isi_bl_str, isi_bl_tuple, isi_bl_list, isi_bl_dict, isi_int_int, isi_int_bool, isi_int_str, isi_int_tuple, isi_int_list, isi_int_dict, isi_str_int, isi_str_bool, isi_str_str, isi_str_tuple, isi_str_list, isi_str_dict, isi_tup_int, isi_tup_bool, isi_tup_str, isi_tup_tuple, isi_tup_list, isi_tup_dict, isi_lst_int, isi_lst_bool, isi_lst_str, isi_lst_tuple, isi_lst_list, isi_lst_dict, isi_dic_int, isi_dic_bool, isi_dic_str, isi_dic_tuple, isi_dic_list, isi_dic_dict]
  · obtain ⟨x0, x2, x3, x4, x5, x6, x7, x8, x9, x10, x11, x12, x13, x14, x15, x16, x17, rfl⟩ := hI
    simp -implicitDefEqProofs only [Dz.e_rng1, Dz.e_rngQ, Dz.e_seq, Dz.e_next, Dz.e_brk, Dz.e_cont, Dz.e_drop, Dz.e_ifS, Dz.e_asg, Dz.e_par, Dz.e_ret, Dz.e_retN, Dz.e_for, Dz.e_run1, Dz.e_run2, Dz.e_run3, Dz.e_run4, Dz.e_run5, Dz.e_run6, Dz.e_run7, Dz.e_run8, Dz.e_rep0, Dz.e_rep1, Dz.e_rep2, Dz.e_rep3, Dz.e_rep4, Dz.e_rep5, Dz.e_rep6, Dz.e_rep7, Dz.e_rep8, Dz.e_rep9, Dz.e_rep10, Dz.e_rep11, Dz.e_rep12, Dz.e_rep13, Dz.e_rep14, Dz.e_rep15, Dz.e_rep16, Dz.e_rep17, Dz.e_rep18, Dz.e_rep19, Dz.e_rep20, Dz.e_rep21, Dz.e_rep22, Dz.e_rep23, Dz.e_rep24, Dz.e_rep25, Dz.e_v0, Dz.e_s0, Dz.e_v1, Dz.e_s1, Dz.e_v2, Dz.e_s2, Dz.e_v3, Dz.e_s3, Dz.e_v4, Dz.e_s4, Dz.e_v5, Dz.e_s5, Dz.e_v6, Dz.e_s6, Dz.e_v7, Dz.e_s7, Dz.e_v8, Dz.e_s8, Dz.e_v9, Dz.e_s9, Dz.e_v10, Dz.e_s10, Dz.e_v11, Dz.e_s11, Dz.e_v12, Dz.e_s12, Dz.e_v13, Dz.e_s13, Dz.e_v14, Dz.e_s14, Dz.e_v15, Dz.e_s15, Dz.e_v16, Dz.e_s16, Dz.e_v17, Dz.e_s17, Dz.e_v18, Dz.e_s18, Dz.e_v19, Dz.e_s19, Dz.e_v20, Dz.e_s20, Dz.e_v21, Dz.e_s21, Dz.e_v22, Dz.e_s22, Dz.e_v23, Dz.e_s23, Dz.e_v24, Dz.e_s24, Dz.e_v25, Dz.e_s25, Dz.e_c, Dz.e_bin, Dz.e_un, Dz.e_test, Dz.e_tru, Dz.e_and, Dz.e_or, Dz.e_not, Dz.e_yes, Dz.e_andV, Dz.e_orV, Dz.e_notV, Dz.e_orT, Dz.e_andT, Dz.e_if, Dz.e_nil, Dz.e_cons, Dz.e_tup, Dz.e_lst, Dz.e_call, Dz.e_fn, Dz.e_chain, Dz.e_noP, Dz.e_part, Dz.e_sl, Dz.e_m1, Dz.e_m0, Dz.e_gv, Dz.e_gt, Dz.e_gc, Dz.e_gn, Dz.e_lc, Dz.e_w0, Dz.e_w1, Dz.e_list, Dz.e_tupI, Dz.e_strI, Dz.tru_bl, Dz.tru_int, Dz.tru_lst, Dz.tru_tup, Dz.tru_str, Dz.len_lst, Dz.len_tup, Dz.len_str, Dz.add_int', Dz.sub_int', Dz.lt_int', Dz.le_int', Dz.gt_int', Dz.ge_int', Dz.eq_int', Dz.ne_int', Dz.eq_str', Dz.ne_str', Dz.asBl_bl, Dz.asStr_str, Dz.asInt_int, Dz.asLst_lst, Dz.asTup_tup, Dz.add_str', Dz.add_lst', Dz.add_tup', Dz.mul_int', Dz.mul_str', Dz.mod_int'', Dz.div_int', Dz.ix_lst', Dz.ix_tup', Dz.ix_str', Dz.sl_lst', Dz.sl_tup', Dz.sl_str', Dz.neg_int', Dz.at0, Dz.at1, Dz.at2, Dz.at3, Dz.at4, Dz.at5, Dz.at6, Dz.at7, Dz.int_int', Dz.int_bl', Dz.tupF_lst, Dz.tupF_tup, Dz.lstF_lst, Dz.lstF_tup, Dz.is_bl', Dz.not_bl', Dz.take_eq, Dz.some_some, Dz.two_eq, List.length_cons, List.length_nil, List.map_cons, List.map_nil, List.append_nil, List.cons_append, List.nil_append, Nat.reduceAdd, Nat.reduceSub, Nat.reduceLeDiff, Nat.zero_add, Int.toNat_natCast, if_true, if_false, Bool.false_eq_true, Bool.not_true, Bool.not_false, true_and, and_true, ite_true, ite_false, Dz.e_fld, Dz.obj_f, Dz.e_meth, Dz.is_obj, Dz.e_make, Dz.e_own1, Dz.e_ownIn, Dz.is_c, Dz.e_star, Dz.sq_lst, Dz.sq_tup, Dz.isL_lst, Dz.e_zip2, Dz.e_enum, Dz.e_sortSet, Dz.own_own, Dz.e_sown, Dz.e_sapp, Dz.e_sput, Dz.e_sins, Dz.e_sext, Dz.e_sfrz, Dz.e_ixo, Dz.e_truo, Dz.slf_slf, Dz.e_sslf, Dz.e_mslf, Dz.e_runI2, Dz.max2, Dz.min2, Dz.e_not, Dz.e_isiT, Dz.isi_lst_lt, Dz.isi_tup_lt, List.getElem?_cons_zero, List.getElem?_cons_succ, isi_non_int, isi_non_bool, isi_non_str, isi_non_tuple, isi_non_list, isi_non_dict, isi_bl_int, isi_bl_bool, isi_bl_str, isi_bl_tuple, isi_bl_list, isi_bl_dict, isi_int_int, isi_int_bool, isi_int_str, isi_int_tuple, isi_int_list, isi_int_dict, isi_str_int, isi_str_bool, isi_str_str, isi_str_tuple, isi_str_list, isi_str_dict, isi_tup_int, isi_tup_bool, isi_tup_str, isi_tup_tuple, isi_tup_list, isi_tup_dict, isi_lst_int, isi_lst_bool, isi_lst_str, isi_lst_tuple, isi_lst_list, isi_lst_dict, isi_dic_int, isi_dic_bool, isi_dic_str, isi_dic_tuple, isi_dic_list, isi_dic_dict, pow9]
    have t : top = 1000000000 := rfl
    refine ⟨by decide, by decide, by decide, ?_⟩
    refine comp_all (fun y => ∃ S, Inr S ∧ S.length ≤ 8 ∧ y = lS S) _ _ (fun d' _ Q q => ?_) fun ys yl yi => ?_
    · simp -implicitDefEqProofs only [Dz.e_rng1, Dz.e_rngQ, Dz.e_seq, Dz.e_next, Dz.e_brk, Dz.e_cont, Dz.e_drop, Dz.e_ifS, Dz.e_asg, Dz.e_par, Dz.e_ret, Dz.e_retN, Dz.e_for, Dz.e_run1, Dz.e_run2, Dz.e_run3, Dz.e_run4, Dz.e_run5, Dz.e_run6, Dz.e_run7, Dz.e_run8, Dz.e_rep0, Dz.e_rep1, Dz.e_rep2, Dz.e_rep3, Dz.e_rep4, Dz.e_rep5, Dz.e_rep6, Dz.e_rep7, Dz.e_rep8, Dz.e_rep9, Dz.e_rep10, Dz.e_rep11, Dz.e_rep12, Dz.e_rep13, Dz.e_rep14, Dz.e_rep15, Dz.e_rep16, Dz.e_rep17, Dz.e_rep18, Dz.e_rep19, Dz.e_rep20, Dz.e_rep21, Dz.e_rep22, Dz.e_rep23, Dz.e_rep24, Dz.e_rep25, Dz.e_v0, Dz.e_s0, Dz.e_v1, Dz.e_s1, Dz.e_v2, Dz.e_s2, Dz.e_v3, Dz.e_s3, Dz.e_v4, Dz.e_s4, Dz.e_v5, Dz.e_s5, Dz.e_v6, Dz.e_s6, Dz.e_v7, Dz.e_s7, Dz.e_v8, Dz.e_s8, Dz.e_v9, Dz.e_s9, Dz.e_v10, Dz.e_s10, Dz.e_v11, Dz.e_s11, Dz.e_v12, Dz.e_s12, Dz.e_v13, Dz.e_s13, Dz.e_v14, Dz.e_s14, Dz.e_v15, Dz.e_s15, Dz.e_v16, Dz.e_s16, Dz.e_v17, Dz.e_s17, Dz.e_v18, Dz.e_s18, Dz.e_v19, Dz.e_s19, Dz.e_v20, Dz.e_s20, Dz.e_v21, Dz.e_s21, Dz.e_v22, Dz.e_s22, Dz.e_v23, Dz.e_s23, Dz.e_v24, Dz.e_s24, Dz.e_v25, Dz.e_s25, Dz.e_c, Dz.e_bin, Dz.e_un, Dz.e_test, Dz.e_tru, Dz.e_and, Dz.e_or, Dz.e_not, Dz.e_yes, Dz.e_andV, Dz.e_orV, Dz.e_notV, Dz.e_orT, Dz.e_andT, Dz.e_if, Dz.e_nil, Dz.e_cons, Dz.e_tup, Dz.e_lst, Dz.e_call, Dz.e_fn, Dz.e_chain, Dz.e_noP, Dz.e_part, Dz.e_sl, Dz.e_m1, Dz.e_m0, Dz.e_gv, Dz.e_gt, Dz.e_gc, Dz.e_gn, Dz.e_lc, Dz.e_w0, Dz.e_w1, Dz.e_list, Dz.e_tupI, Dz.e_strI, Dz.tru_bl, Dz.tru_int, Dz.tru_lst, Dz.tru_tup, Dz.tru_str, Dz.len_lst, Dz.len_tup, Dz.len_str, Dz.add_int', Dz.sub_int', Dz.lt_int', Dz.le_int', Dz.gt_int', Dz.ge_int', Dz.eq_int', Dz.ne_int', Dz.eq_str', Dz.ne_str', Dz.asBl_bl, Dz.asStr_str, Dz.asInt_int, Dz.asLst_lst, Dz.asTup_tup, Dz.add_str', Dz.add_lst', Dz.add_tup', Dz.mul_int', Dz.mul_str', Dz.mod_int'', Dz.div_int', Dz.ix_lst', Dz.ix_tup', Dz.ix_str', Dz.sl_lst', Dz.sl_tup', Dz.sl_str', Dz.neg_int', Dz.at0, Dz.at1, Dz.at2, Dz.at3, Dz.at4, Dz.at5, Dz.at6, Dz.at7, Dz.int_int', Dz.int_bl', Dz.tupF_lst, Dz.tupF_tup, Dz.lstF_lst, Dz.lstF_tup, Dz.is_bl', Dz.not_bl', Dz.take_eq, Dz.some_some, Dz.two_eq, List.length_cons, List.length_nil, List.map_cons, List.map_nil, List.append_nil, List.cons_append, List.nil_append, Nat.reduceAdd, Nat.reduceSub, Nat.reduceLeDiff, Nat.zero_add, Int.toNat_natCast, if_true, if_false, Bool.false_eq_true, Bool.not_true, Bool.not_false, true_and, and_true, ite_true, ite_false, Dz.e_fld, Dz.obj_f, Dz.e_meth, Dz.is_obj, Dz.e_make, Dz.e_own1, Dz.e_ownIn, Dz.is_c, Dz.e_star, Dz.sq_lst, Dz.sq_tup, Dz.isL_lst, Dz.e_zip2, Dz.e_enum, Dz.e_sortSet, Dz.own_own, Dz.e_sown, Dz.e_sapp, Dz.e_sput, Dz.e_sins, Dz.e_sext, Dz.e_sfrz, Dz.e_ixo, Dz.e_truo, Dz.slf_slf, Dz.e_sslf, Dz.e_mslf, Dz.e_runI2, Dz.max2, Dz.min2, Dz.e_not, Dz.e_isiT, Dz.isi_lst_lt, Dz.isi_tup_lt, List.getElem?_cons_zero, List.getElem?_cons_succ, isi_non_int, isi_non_bool, isi_non_str, isi_non_tuple, isi_non_list, isi_non_dict, isi_bl_int, isi_bl_bool, isi_bl_str, isi_bl_tuple, isi_bl_list, isi_bl_dict, isi_int_int, isi_int_bool, isi_int_str, isi_int_tuple, isi_int_list, isi_int_dict, isi_str_int, isi_str_bool, isi_str_str, isi_str_tuple, isi_str_list, isi_str_dict, isi_tup_int, isi_tup_bool, isi_tup_str, isi_tup_tuple, isi_tup_list, isi_tup_dict, isi_lst_int, isi_lst_bool, isi_lst_str, isi_lst_tuple, isi_lst_list, isi_lst_dict, isi_dic_int, isi_dic_bool, isi_dic_str, isi_dic_tuple, isi_dic_list, isi_dic_dict]
      exact drawn_spec c Q fun S h1 h2 => q _ ⟨S, h1, h2, rfl⟩
    refine ⟨by decide, by decide, by decide, by decide, tk _ (by omega) (by omega) fun r r0 r1 => ?_⟩
    refine pick _ r r0 (by simpa using r1) _ fun x hx => ?_
    obtain ⟨S2, i2, l2, rfl⟩ : ∃ S, Inr S ∧ S.length ≤ 8 ∧ x = lS S := by
      simp only [List.mem_cons, List.not_mem_nil, or_false] at hx
      rcases hx with rfl | rfl
      · exact ⟨([] : List (Int × Int)), fun p hp => (by cases hp), by decide, rfl⟩
      · exact ⟨([(0, 1000000000)] : List (Int × Int)), fun p hp => by rw [List.mem_singleton.mp hp]; exact ⟨by decide, by decide, by decide, by decide⟩, by decide, rfl⟩
    have yl : ys.length = 2 := yl
    obtain ⟨SS, e, sl, si⟩ : ∃ SS : List (List (Int × Int)), ys ++ [lS S2] = SS.map lS ∧ SS.length = 3 ∧ ∀ S ∈ SS, Inr S ∧ S.length ≤ 8 := by
      match ys, yl, yi with
      | [y1, y2], _, yi =>
        obtain ⟨S0, a0, b0, rfl⟩ := yi y1 (by simp)
        obtain ⟨S1, a1, b1, rfl⟩ := yi y2 (by simp)
        refine ⟨[S0, S1, S2], rfl, rfl, fun S hS => ?_⟩
        simp only [List.mem_cons, List.not_mem_nil, or_false] at hS
        rcases hS with rfl | rfl | rfl
        · exact ⟨a0, b0⟩
        · exact ⟨a1, b1⟩
        · exact ⟨i2, l2⟩
    rw [e]
    refine ⟨by decide, by rw [yl]; decide, by rw [List.length_map, sl]; decide, ?_⟩
    refine comp_relL lS (dO c) Good SS _ (fun S hS Q q => ?_) fun zs ez gz => ?_
    · simp -implicitDefEqProofs only [Dz.e_rng1, Dz.e_rngQ, Dz.e_seq, Dz.e_next, Dz.e_brk, Dz.e_cont, Dz.e_drop, Dz.e_ifS, Dz.e_asg, Dz.e_par, Dz.e_ret, Dz.e_retN, Dz.e_for, Dz.e_run1, Dz.e_run2, Dz.e_run3, Dz.e_run4, Dz.e_run5, Dz.e_run6, Dz.e_run7, Dz.e_run8, Dz.e_rep0, Dz.e_rep1, Dz.e_rep2, Dz.e_rep3, Dz.e_rep4, Dz.e_rep5, Dz.e_rep6, Dz.e_rep7, Dz.e_rep8, Dz.e_rep9, Dz.e_rep10, Dz.e_rep11, Dz.e_rep12, Dz.e_rep13, Dz.e_rep14, Dz.e_rep15, Dz.e_rep16, Dz.e_rep17, Dz.e_rep18, Dz.e_rep19, Dz.e_rep20, Dz.e_rep21, Dz.e_rep22, Dz.e_rep23, Dz.e_rep24, Dz.e_rep25, Dz.e_v0, Dz.e_s0, Dz.e_v1, Dz.e_s1, Dz.e_v2, Dz.e_s2, Dz.e_v3, Dz.e_s3, Dz.e_v4, Dz.e_s4, Dz.e_v5, Dz.e_s5, Dz.e_v6, Dz.e_s6, Dz.e_v7, Dz.e_s7, Dz.e_v8, Dz.e_s8, Dz.e_v9, Dz.e_s9, Dz.e_v10, Dz.e_s10, Dz.e_v11, Dz.e_s11, Dz.e_v12, Dz.e_s12, Dz.e_v13, Dz.e_s13, Dz.e_v14, Dz.e_s14, Dz.e_v15, Dz.e_s15, Dz.e_v16, Dz.e_s16, Dz.e_v17, Dz.e_s17, Dz.e_v18, Dz.e_s18, Dz.e_v19, Dz.e_s19, Dz.e_v20, Dz.e_s20, Dz.e_v21, Dz.e_s21, Dz.e_v22, Dz.e_s22, Dz.e_v23, Dz.e_s23, Dz.e_v24, Dz.e_s24, Dz.e_v25, Dz.e_s25, Dz.e_c, Dz.e_bin, Dz.e_un, Dz.e_test, Dz.e_tru, Dz.e_and, Dz.e_or, Dz.e_not, Dz.e_yes, Dz.e_andV, Dz.e_orV, Dz.e_notV, Dz.e_orT, Dz.e_andT, Dz.e_if, Dz.e_nil, Dz.e_cons, Dz.e_tup, Dz.e_lst, Dz.e_call, Dz.e_fn, Dz.e_chain, Dz.e_noP, Dz.e_part, Dz.e_sl, Dz.e_m1, Dz.e_m0, Dz.e_gv, Dz.e_gt, Dz.e_gc, Dz.e_gn, Dz.e_lc, Dz.e_w0, Dz.e_w1, Dz.e_list, Dz.e_tupI, Dz.e_strI, Dz.tru_bl, Dz.tru_int, Dz.tru_lst, Dz.tru_tup, Dz.tru_str, Dz.len_lst, Dz.len_tup, Dz.len_str, Dz.add_int', Dz.sub_int', Dz.lt_int', Dz.le_int', Dz.gt_int', Dz.ge_int', Dz.eq_int', Dz.ne_int', Dz.eq_str', Dz.ne_str', Dz.asBl_bl, Dz.asStr_str, Dz.asInt_int, Dz.asLst_lst, Dz.asTup_tup, Dz.add_str', Dz.add_lst', Dz.add_tup', Dz.mul_int', Dz.mul_str', Dz.mod_int'', Dz.div_int', Dz.ix_lst', Dz.ix_tup', Dz.ix_str', Dz.sl_lst', Dz.sl_tup', Dz.sl_str', Dz.neg_int', Dz.at0, Dz.at1, Dz.at2, Dz.at3, Dz.at4, Dz.at5, Dz.at6, Dz.at7, Dz.int_int', Dz.int_bl', Dz.tupF_lst, Dz.tupF_tup, Dz.lstF_lst, Dz.lstF_tup, Dz.is_bl', Dz.not_bl', Dz.take_eq, Dz.some_some, Dz.two_eq, List.length_cons, List.length_nil, List.map_cons, List.map_nil, List.append_nil, List.cons_append, List.nil_append, Nat.reduceAdd, Nat.reduceSub, Nat.reduceLeDiff, Nat.zero_add, Int.toNat_natCast, if_true, if_false, Bool.false_eq_true, Bool.not_true, Bool.not_false, true_and, and_true, ite_true, ite_false, Dz.e_fld, Dz.obj_f, Dz.e_meth, Dz.is_obj, Dz.e_make, Dz.e_own1, Dz.e_ownIn, Dz.is_c, Dz.e_star, Dz.sq_lst, Dz.sq_tup, Dz.isL_lst, Dz.e_zip2, Dz.e_enum, Dz.e_sortSet, Dz.own_own, Dz.e_sown, Dz.e_sapp, Dz.e_sput, Dz.e_sins, Dz.e_sext, Dz.e_sfrz, Dz.e_ixo, Dz.e_truo, Dz.slf_slf, Dz.e_sslf, Dz.e_mslf, Dz.e_runI2, Dz.max2, Dz.min2, Dz.e_not, Dz.e_isiT, Dz.isi_lst_lt, Dz.isi_tup_lt, List.getElem?_cons_zero, List.getElem?_cons_succ, isi_non_int, isi_non_bool, isi_non_str, isi_non_tuple, isi_non_list, isi_non_dict, isi_bl_int, isi_bl_bool, isi_bl_str, isi_bl_tuple, isi_bl_list, isi_bl_dict, isi_int_int, isi_int_bool, isi_int_str, isi_int_tuple, isi_int_list, isi_int_dict, isi_str_int, isi_str_bool, isi_str_str, isi_str_tuple, isi_str_list, isi_str_dict, isi_tup_int, isi_tup_bool, isi_tup_str, isi_tup_tuple, isi_tup_list, isi_tup_dict, isi_lst_int, isi_lst_bool, isi_lst_str, isi_lst_tuple, isi_lst_list, isi_lst_dict, isi_dic_int, isi_dic_bool, isi_dic_str, isi_dic_tuple, isi_dic_list, isi_dic_dict]
      unfold lS
      refine mixed_spec c S (by have := (si S hS).2; omega) _ fun S' hp => ?_
      have hs := si S hS
      have hpl := hp.length_eq
      refine fun a => init_spec c a S' (fun p h => hs.1 p (hp.subset h)) (by omega) _ fun F c1 c2 c3 c4 => q F ⟨hs.1, hs.2, c1, c2, fun x => ?_, by omega⟩
      rw [c3 x, Bool.eq_iff_iff, has_iff, has_iff]
      exact ⟨fun ⟨p, h, q⟩ => ⟨p, hp.subset h, q⟩, fun ⟨p, h, q⟩ => ⟨p, hp.symm.subset h, q⟩⟩
    refine tk _ (by omega) (by omega) fun day d0 d1 => ?_
    refine tk _ (by omega) (by omega) fun at' a0 a1 => ?_
    have zl : zs.length = 3 := by rw [← sl, ← ez, List.length_map]
    obtain ⟨z, zin, z1, z2⟩ : ∃ z ∈ zs, (∀ P : D → Prop, someD (atI (SS.map lS) at') P = P (lS z.1)) ∧ (∀ P : D → Prop, someD (atI (zs.map fun z => dO c z.2) at') P = P (dO c z.2)) := by
      have hi : at'.toNat < zs.length := by omega
      refine ⟨zs[at'.toNat], List.getElem_mem _, fun P => ?_, fun P => ?_⟩
      · rw [← ez, List.map_map, atI_int (v := lS zs[at'.toNat].1) a0 (by rw [List.getElem?_map, List.getElem?_eq_getElem hi]; rfl)]
        rfl
      · rw [atI_int (v := dO c zs[at'.toNat].2) a0 (by rw [List.getElem?_map, List.getElem?_eq_getElem hi]; rfl)]
        rfl
    have g := gz z zin
    simp only [z1, z2]
    refine hasday_spec c z.1 (by have := g.lenS; omega) day _ ⟨by decide, ?_⟩
    refine points_spec c z.1 (by have := g.lenS; omega) _ fun ms m1 m2 => ?_
    simp -implicitDefEqProofs only [Dz.e_rng1, Dz.e_rngQ, Dz.e_seq, Dz.e_next, Dz.e_brk, Dz.e_cont, Dz.e_drop, Dz.e_ifS, Dz.e_asg, Dz.e_par, Dz.e_ret, Dz.e_retN, Dz.e_for, Dz.e_run1, Dz.e_run2, Dz.e_run3, Dz.e_run4, Dz.e_run5, Dz.e_run6, Dz.e_run7, Dz.e_run8, Dz.e_rep0, Dz.e_rep1, Dz.e_rep2, Dz.e_rep3, Dz.e_rep4, Dz.e_rep5, Dz.e_rep6, Dz.e_rep7, Dz.e_rep8, Dz.e_rep9, Dz.e_rep10, Dz.e_rep11, Dz.e_rep12, Dz.e_rep13, Dz.e_rep14, Dz.e_rep15, Dz.e_rep16, Dz.e_rep17, Dz.e_rep18, Dz.e_rep19, Dz.e_rep20, Dz.e_rep21, Dz.e_rep22, Dz.e_rep23, Dz.e_rep24, Dz.e_rep25, Dz.e_v0, Dz.e_s0, Dz.e_v1, Dz.e_s1, Dz.e_v2, Dz.e_s2, Dz.e_v3, Dz.e_s3, Dz.e_v4, Dz.e_s4, Dz.e_v5, Dz.e_s5, Dz.e_v6, Dz.e_s6, Dz.e_v7, Dz.e_s7, Dz.e_v8, Dz.e_s8, Dz.e_v9, Dz.e_s9, Dz.e_v10, Dz.e_s10, Dz.e_v11, Dz.e_s11, Dz.e_v12, Dz.e_s12, Dz.e_v13, Dz.e_s13, Dz.e_v14, Dz.e_s14, Dz.e_v15, Dz.e_s15, Dz.e_v16, Dz.e_s16, Dz.e_v17, Dz.e_s17, Dz.e_v18, Dz.e_s18, Dz.e_v19, Dz.e_s19, Dz.e_v20, Dz.e_s20, Dz.e_v21, Dz.e_s21, Dz.e_v22, Dz.e_s22, Dz.e_v23, Dz.e_s23, Dz.e_v24, Dz.e_s24, Dz.e_v25, Dz.e_s25, Dz.e_c, Dz.e_bin, Dz.e_un, Dz.e_test, Dz.e_tru, Dz.e_and, Dz.e_or, Dz.e_not, Dz.e_yes, Dz.e_andV, Dz.e_orV, Dz.e_notV, Dz.e_orT, Dz.e_andT, Dz.e_if, Dz.e_nil, Dz.e_cons, Dz.e_tup, Dz.e_lst, Dz.e_call, Dz.e_fn, Dz.e_chain, Dz.e_noP, Dz.e_part, Dz.e_sl, Dz.e_m1, Dz.e_m0, Dz.e_gv, Dz.e_gt, Dz.e_gc, Dz.e_gn, Dz.e_lc, Dz.e_w0, Dz.e_w1, Dz.e_list, Dz.e_tupI, Dz.e_strI, Dz.tru_bl, Dz.tru_int, Dz.tru_lst, Dz.tru_tup, Dz.tru_str, Dz.len_lst, Dz.len_tup, Dz.len_str, Dz.add_int', Dz.sub_int', Dz.lt_int', Dz.le_int', Dz.gt_int', Dz.ge_int', Dz.eq_int', Dz.ne_int', Dz.eq_str', Dz.ne_str', Dz.asBl_bl, Dz.asStr_str, Dz.asInt_int, Dz.asLst_lst, Dz.asTup_tup, Dz.add_str', Dz.add_lst', Dz.add_tup', Dz.mul_int', Dz.mul_str', Dz.mod_int'', Dz.div_int', Dz.ix_lst', Dz.ix_tup', Dz.ix_str', Dz.sl_lst', Dz.sl_tup', Dz.sl_str', Dz.neg_int', Dz.at0, Dz.at1, Dz.at2, Dz.at3, Dz.at4, Dz.at5, Dz.at6, Dz.at7, Dz.int_int', Dz.int_bl', Dz.tupF_lst, Dz.tupF_tup, Dz.lstF_lst, Dz.lstF_tup, Dz.is_bl', Dz.not_bl', Dz.take_eq, Dz.some_some, Dz.two_eq, List.length_cons, List.length_nil, List.map_cons, List.map_nil, List.append_nil, List.cons_append, List.nil_append, Nat.reduceAdd, Nat.reduceSub, Nat.reduceLeDiff, Nat.zero_add, Int.toNat_natCast, if_true, if_false, Bool.false_eq_true, Bool.not_true, Bool.not_false, true_and, and_true, ite_true, ite_false, Dz.e_fld, Dz.obj_f, Dz.e_meth, Dz.is_obj, Dz.e_make, Dz.e_own1, Dz.e_ownIn, Dz.is_c, Dz.e_star, Dz.sq_lst, Dz.sq_tup, Dz.isL_lst, Dz.e_zip2, Dz.e_enum, Dz.e_sortSet, Dz.own_own, Dz.e_sown, Dz.e_sapp, Dz.e_sput, Dz.e_sins, Dz.e_sext, Dz.e_sfrz, Dz.e_ixo, Dz.e_truo, Dz.slf_slf, Dz.e_sslf, Dz.e_mslf, Dz.e_runI2, Dz.max2, Dz.min2, Dz.e_not, Dz.e_isiT, Dz.isi_lst_lt, Dz.isi_tup_lt, List.getElem?_cons_zero, List.getElem?_cons_succ, isi_non_int, isi_non_bool, isi_non_str, isi_non_tuple, isi_non_list, isi_non_dict, isi_bl_int, isi_bl_bool, isi_bl_str, isi_bl_tuple, isi_bl_list, isi_bl_dict, isi_int_int, isi_int_bool, isi_int_str, isi_int_tuple, isi_int_list, isi_int_dict, isi_str_int, isi_str_bool, isi_str_str, isi_str_tuple, isi_str_list, isi_str_dict, isi_tup_int, isi_tup_bool, isi_tup_str, isi_tup_tuple, isi_tup_list, isi_tup_dict, isi_lst_int, isi_lst_bool, isi_lst_str, isi_lst_tuple, isi_lst_list, isi_lst_dict, isi_dic_int, isi_dic_bool, isi_dic_str, isi_dic_tuple, isi_dic_list, isi_dic_dict]
    have msl : ms.length ≤ 1000 := by have := ms_len g.lenS m1 m2; omega
    refine later_spec c z.1 (by have := g.lenS; omega) ms m2 msl day _ _ fun r1 f1 => ?_
    refine later_spec c z.1 (by have := g.lenS; omega) ms m2 msl day _ _ fun r2 f2 => ⟨by decide, ?_⟩
    rw [isO_turn]
    refine turn_spec c z.2 g.can g.inF (by have := g.lenF; omega) day d0 _ fun r3 f3 => ?_
    rw [isO_beyond]
    refine bey_spec c z.2 day _ ⟨by decide, ?_⟩
    rw [g.two f3 f1, g.one f2]
    refine rep2 _ _ (oin_of (by omega) f1) (oin_of (by omega) f2) _ ?_
    refine rep2 _ _ (oin_of (by omega) f1) (oin_of (by omega) f2) _ ?_
    rw [ne_same]
    simp -implicitDefEqProofs only [Dz.e_rng1, Dz.e_rngQ, Dz.e_seq, Dz.e_next, Dz.e_brk, Dz.e_cont, Dz.e_drop, Dz.e_ifS, Dz.e_asg, Dz.e_par, Dz.e_ret, Dz.e_retN, Dz.e_for, Dz.e_run1, Dz.e_run2, Dz.e_run3, Dz.e_run4, Dz.e_run5, Dz.e_run6, Dz.e_run7, Dz.e_run8, Dz.e_rep0, Dz.e_rep1, Dz.e_rep2, Dz.e_rep3, Dz.e_rep4, Dz.e_rep5, Dz.e_rep6, Dz.e_rep7, Dz.e_rep8, Dz.e_rep9, Dz.e_rep10, Dz.e_rep11, Dz.e_rep12, Dz.e_rep13, Dz.e_rep14, Dz.e_rep15, Dz.e_rep16, Dz.e_rep17, Dz.e_rep18, Dz.e_rep19, Dz.e_rep20, Dz.e_rep21, Dz.e_rep22, Dz.e_rep23, Dz.e_rep24, Dz.e_rep25, Dz.e_v0, Dz.e_s0, Dz.e_v1, Dz.e_s1, Dz.e_v2, Dz.e_s2, Dz.e_v3, Dz.e_s3, Dz.e_v4, Dz.e_s4, Dz.e_v5, Dz.e_s5, Dz.e_v6, Dz.e_s6, Dz.e_v7, Dz.e_s7, Dz.e_v8, Dz.e_s8, Dz.e_v9, Dz.e_s9, Dz.e_v10, Dz.e_s10, Dz.e_v11, Dz.e_s11, Dz.e_v12, Dz.e_s12, Dz.e_v13, Dz.e_s13, Dz.e_v14, Dz.e_s14, Dz.e_v15, Dz.e_s15, Dz.e_v16, Dz.e_s16, Dz.e_v17, Dz.e_s17, Dz.e_v18, Dz.e_s18, Dz.e_v19, Dz.e_s19, Dz.e_v20, Dz.e_s20, Dz.e_v21, Dz.e_s21, Dz.e_v22, Dz.e_s22, Dz.e_v23, Dz.e_s23, Dz.e_v24, Dz.e_s24, Dz.e_v25, Dz.e_s25, Dz.e_c, Dz.e_bin, Dz.e_un, Dz.e_test, Dz.e_tru, Dz.e_and, Dz.e_or, Dz.e_not, Dz.e_yes, Dz.e_andV, Dz.e_orV, Dz.e_notV, Dz.e_orT, Dz.e_andT, Dz.e_if, Dz.e_nil, Dz.e_cons, Dz.e_tup, Dz.e_lst, Dz.e_call, Dz.e_fn, Dz.e_chain, Dz.e_noP, Dz.e_part, Dz.e_sl, Dz.e_m1, Dz.e_m0, Dz.e_gv, Dz.e_gt, Dz.e_gc, Dz.e_gn, Dz.e_lc, Dz.e_w0, Dz.e_w1, Dz.e_list, Dz.e_tupI, Dz.e_strI, Dz.tru_bl, Dz.tru_int, Dz.tru_lst, Dz.tru_tup, Dz.tru_str, Dz.len_lst, Dz.len_tup, Dz.len_str, Dz.add_int', Dz.sub_int', Dz.lt_int', Dz.le_int', Dz.gt_int', Dz.ge_int', Dz.eq_int', Dz.ne_int', Dz.eq_str', Dz.ne_str', Dz.asBl_bl, Dz.asStr_str, Dz.asInt_int, Dz.asLst_lst, Dz.asTup_tup, Dz.add_str', Dz.add_lst', Dz.add_tup', Dz.mul_int', Dz.mul_str', Dz.mod_int'', Dz.div_int', Dz.ix_lst', Dz.ix_tup', Dz.ix_str', Dz.sl_lst', Dz.sl_tup', Dz.sl_str', Dz.neg_int', Dz.at0, Dz.at1, Dz.at2, Dz.at3, Dz.at4, Dz.at5, Dz.at6, Dz.at7, Dz.int_int', Dz.int_bl', Dz.tupF_lst, Dz.tupF_tup, Dz.lstF_lst, Dz.lstF_tup, Dz.is_bl', Dz.not_bl', Dz.take_eq, Dz.some_some, Dz.two_eq, List.length_cons, List.length_nil, List.map_cons, List.map_nil, List.append_nil, List.cons_append, List.nil_append, Nat.reduceAdd, Nat.reduceSub, Nat.reduceLeDiff, Nat.zero_add, Int.toNat_natCast, if_true, if_false, Bool.false_eq_true, Bool.not_true, Bool.not_false, true_and, and_true, ite_true, ite_false, Dz.e_fld, Dz.obj_f, Dz.e_meth, Dz.is_obj, Dz.e_make, Dz.e_own1, Dz.e_ownIn, Dz.is_c, Dz.e_star, Dz.sq_lst, Dz.sq_tup, Dz.isL_lst, Dz.e_zip2, Dz.e_enum, Dz.e_sortSet, Dz.own_own, Dz.e_sown, Dz.e_sapp, Dz.e_sput, Dz.e_sins, Dz.e_sext, Dz.e_sfrz, Dz.e_ixo, Dz.e_truo, Dz.slf_slf, Dz.e_sslf, Dz.e_mslf, Dz.e_runI2, Dz.max2, Dz.min2, Dz.e_not, Dz.e_isiT, Dz.isi_lst_lt, Dz.isi_tup_lt, List.getElem?_cons_zero, List.getElem?_cons_succ, isi_non_int, isi_non_bool, isi_non_str, isi_non_tuple, isi_non_list, isi_non_dict, isi_bl_int, isi_bl_bool, isi_bl_str, isi_bl_tuple, isi_bl_list, isi_bl_dict, isi_int_int, isi_int_bool, isi_int_str, isi_int_tuple, isi_int_list, isi_int_dict, isi_str_int, isi_str_bool, isi_str_str, isi_str_tuple, isi_str_list, isi_str_dict, isi_tup_int, isi_tup_bool, isi_tup_str, isi_tup_tuple, isi_tup_list, isi_tup_dict, isi_lst_int, isi_lst_bool, isi_lst_str, isi_lst_tuple, isi_lst_list, isi_lst_dict, isi_dic_int, isi_dic_bool, isi_dic_str, isi_dic_tuple, isi_dic_list, isi_dic_dict]
    refine reprI_spec c zs gz zl _ _ _ _ _ _ _ _ _ _ _ _ _ _ _ _ _ _ ⟨by decide, by decide, ?_⟩
    have es : SS.map lS = zs.map fun z => lS z.1 := by rw [← ez, List.map_map]; rfl
    rw [es]
    refine for_inv (fun rest ρ => St2 c zs ρ) _ _ ⟨_, _, _, _, _, _, _, _, _, _, _, _, _, _, rfl⟩ (fun ρ hρ => ?_) (fun d' ds' ρ N' hI' hN' => ?_)
    · obtain ⟨x0, x2, x4, x6, x7, x8, x9, x10, x11, x13, x14, x15, x16, x17, rfl⟩ := hρ
      simp -implicitDefEqProofs only [Dz.e_rng1, Dz.e_rngQ, Dz.e_seq, Dz.e_next, Dz.e_brk, Dz.e_cont, Dz.e_drop, Dz.e_ifS, Dz.e_asg, Dz.e_par, Dz.e_ret, Dz.e_retN, Dz.e_for, Dz.e_run1, Dz.e_run2, Dz.e_run3, Dz.e_run4, Dz.e_run5, Dz.e_run6, Dz.e_run7, Dz.e_run8, Dz.e_rep0, Dz.e_rep1, Dz.e_rep2, Dz.e_rep3, Dz.e_rep4, Dz.e_rep5, Dz.e_rep6, Dz.e_rep7, Dz.e_rep8, Dz.e_rep9, Dz.e_rep10, Dz.e_rep11, Dz.e_rep12, Dz.e_rep13, Dz.e_rep14, Dz.e_rep15, Dz.e_rep16, Dz.e_rep17, Dz.e_rep18, Dz.e_rep19, Dz.e_rep20, Dz.e_rep21, Dz.e_rep22, Dz.e_rep23, Dz.e_rep24, Dz.e_rep25, Dz.e_v0, Dz.e_s0, Dz.e_v1, Dz.e_s1, Dz.e_v2, Dz.e_s2, Dz.e_v3, Dz.e_s3, Dz.e_v4, Dz.e_s4, Dz.e_v5, Dz.e_s5, Dz.e_v6, Dz.e_s6, Dz.e_v7, Dz.e_s7, Dz.e_v8, Dz.e_s8, Dz.e_v9, Dz.e_s9, Dz.e_v10, Dz.e_s10, Dz.e_v11, Dz.e_s11, Dz.e_v12, Dz.e_s12, Dz.e_v13, Dz.e_s13, Dz.e_v14, Dz.e_s14, Dz.e_v15, Dz.e_s15, Dz.e_v16, Dz.e_s16, Dz.e_v17, Dz.e_s17, Dz.e_v18, Dz.e_s18, Dz.e_v19, Dz.e_s19, Dz.e_v20, Dz.e_s20, Dz.e_v21, Dz.e_s21, Dz.e_v22, Dz.e_s22, Dz.e_v23, Dz.e_s23, Dz.e_v24, Dz.e_s24, Dz.e_v25, Dz.e_s25, Dz.e_c, Dz.e_bin, Dz.e_un, Dz.e_test, Dz.e_tru, Dz.e_and, Dz.e_or, Dz.e_not, Dz.e_yes, Dz.e_andV, Dz.e_orV, Dz.e_notV, Dz.e_orT, Dz.e_andT, Dz.e_if, Dz.e_nil, Dz.e_cons, Dz.e_tup, Dz.e_lst, Dz.e_call, Dz.e_fn, Dz.e_chain, Dz.e_noP, Dz.e_part, Dz.e_sl, Dz.e_m1, Dz.e_m0, Dz.e_gv, Dz.e_gt, Dz.e_gc, Dz.e_gn, Dz.e_lc, Dz.e_w0, Dz.e_w1, Dz.e_list, Dz.e_tupI, Dz.e_strI, Dz.tru_bl, Dz.tru_int, Dz.tru_lst, Dz.tru_tup, Dz.tru_str, Dz.len_lst, Dz.len_tup, Dz.len_str, Dz.add_int', Dz.sub_int', Dz.lt_int', Dz.le_int', Dz.gt_int', Dz.ge_int', Dz.eq_int', Dz.ne_int', Dz.eq_str', Dz.ne_str', Dz.asBl_bl, Dz.asStr_str, Dz.asInt_int, Dz.asLst_lst, Dz.asTup_tup, Dz.add_str', Dz.add_lst', Dz.add_tup', Dz.mul_int', Dz.mul_str', Dz.mod_int'', Dz.div_int', Dz.ix_lst', Dz.ix_tup', Dz.ix_str', Dz.sl_lst', Dz.sl_tup', Dz.sl_str', Dz.neg_int', Dz.at0, Dz.at1, Dz.at2, Dz.at3, Dz.at4, Dz.at5, Dz.at6, Dz.at7, Dz.int_int', Dz.int_bl', Dz.tupF_lst, Dz.tupF_tup, Dz.lstF_lst, Dz.lstF_tup, Dz.is_bl', Dz.not_bl', Dz.take_eq, Dz.some_some, Dz.two_eq, List.length_cons, List.length_nil, List.map_cons, List.map_nil, List.append_nil, List.cons_append, List.nil_append, Nat.reduceAdd, Nat.reduceSub, Nat.reduceLeDiff, Nat.zero_add, Int.toNat_natCast, if_true, if_false, Bool.false_eq_true, Bool.not_true, Bool.not_false, true_and, and_true, ite_true, ite_false, Dz.e_fld, Dz.obj_f, Dz.e_meth, Dz.is_obj, Dz.e_make, Dz.e_own1, Dz.e_ownIn, Dz.is_c, Dz.e_star, Dz.sq_lst, Dz.sq_tup, Dz.isL_lst, Dz.e_zip2, Dz.e_enum, Dz.e_sortSet, Dz.own_own, Dz.e_sown, Dz.e_sapp, Dz.e_sput, Dz.e_sins, Dz.e_sext, Dz.e_sfrz, Dz.e_ixo, Dz.e_truo, Dz.slf_slf, Dz.e_sslf, Dz.e_mslf, Dz.e_runI2, Dz.max2, Dz.min2, Dz.e_not, Dz.e_isiT, Dz.isi_lst_lt, Dz.isi_tup_lt, List.getElem?_cons_zero, List.getElem?_cons_succ, isi_non_int, isi_non_bool, isi_non_str, isi_non_tuple, isi_non_list, isi_non_dict, isi_bl_int, isi_bl_bool, isi_bl_str, isi_bl_tuple, isi_bl_list, isi_bl_dict, isi_int_int, isi_int_bool, isi_int_str, isi_int_tuple, isi_int_list, isi_int_dict, isi_str_int, isi_str_bool, isi_str_str, isi_str_tuple, isi_str_list, isi_str_dict, isi_tup_int, isi_tup_bool, isi_tup_str, isi_tup_tuple, isi_tup_list, isi_tup_dict, isi_lst_int, isi_lst_bool, isi_lst_str, isi_lst_tuple, isi_lst_list, isi_lst_dict, isi_dic_int, isi_dic_bool, isi_dic_str, isi_dic_tuple, isi_dic_list, isi_dic_dict]
      refine reprI_spec c zs gz zl _ _ _ _ _ _ _ _ _ _ _ _ _ _ _ _ _ _ ?_
      rw [ne_same]
      simp -implicitDefEqProofs only [Dz.e_rng1, Dz.e_rngQ, Dz.e_seq, Dz.e_next, Dz.e_brk, Dz.e_cont, Dz.e_drop, Dz.e_ifS, Dz.e_asg, Dz.e_par, Dz.e_ret, Dz.e_retN, Dz.e_for, Dz.e_run1, Dz.e_run2, Dz.e_run3, Dz.e_run4, Dz.e_run5, Dz.e_run6, Dz.e_run7, Dz.e_run8, Dz.e_rep0, Dz.e_rep1, Dz.e_rep2, Dz.e_rep3, Dz.e_rep4, Dz.e_rep5, Dz.e_rep6, Dz.e_rep7, Dz.e_rep8, Dz.e_rep9, Dz.e_rep10, Dz.e_rep11, Dz.e_rep12, Dz.e_rep13, Dz.e_rep14, Dz.e_rep15, Dz.e_rep16, Dz.e_rep17, Dz.e_rep18, Dz.e_rep19, Dz.e_rep20, Dz.e_rep21, Dz.e_rep22, Dz.e_rep23, Dz.e_rep24, Dz.e_rep25, Dz.e_v0, Dz.e_s0, Dz.e_v1, Dz.e_s1, Dz.e_v2, Dz.e_s2, Dz.e_v3, Dz.e_s3, Dz.e_v4, Dz.e_s4, Dz.e_v5, Dz.e_s5, Dz.e_v6, Dz.e_s6, Dz.e_v7, Dz.e_s7, Dz.e_v8, Dz.e_s8, Dz.e_v9, Dz.e_s9, Dz.e_v10, Dz.e_s10, Dz.e_v11, Dz.e_s11, Dz.e_v12, Dz.e_s12, Dz.e_v13, Dz.e_s13, Dz.e_v14, Dz.e_s14, Dz.e_v15, Dz.e_s15, Dz.e_v16, Dz.e_s16, Dz.e_v17, Dz.e_s17, Dz.e_v18, Dz.e_s18, Dz.e_v19, Dz.e_s19, Dz.e_v20, Dz.e_s20, Dz.e_v21, Dz.e_s21, Dz.e_v22, Dz.e_s22, Dz.e_v23, Dz.e_s23, Dz.e_v24, Dz.e_s24, Dz.e_v25, Dz.e_s25, Dz.e_c, Dz.e_bin, Dz.e_un, Dz.e_test, Dz.e_tru, Dz.e_and, Dz.e_or, Dz.e_not, Dz.e_yes, Dz.e_andV, Dz.e_orV, Dz.e_notV, Dz.e_orT, Dz.e_andT, Dz.e_if, Dz.e_nil, Dz.e_cons, Dz.e_tup, Dz.e_lst, Dz.e_call, Dz.e_fn, Dz.e_chain, Dz.e_noP, Dz.e_part, Dz.e_sl, Dz.e_m1, Dz.e_m0, Dz.e_gv, Dz.e_gt, Dz.e_gc, Dz.e_gn, Dz.e_lc, Dz.e_w0, Dz.e_w1, Dz.e_list, Dz.e_tupI, Dz.e_strI, Dz.tru_bl, Dz.tru_int, Dz.tru_lst, Dz.tru_tup, Dz.tru_str, Dz.len_lst, Dz.len_tup, Dz.len_str, Dz.add_int', Dz.sub_int', Dz.lt_int', Dz.le_int', Dz.gt_int', Dz.ge_int', Dz.eq_int', Dz.ne_int', Dz.eq_str', Dz.ne_str', Dz.asBl_bl, Dz.asStr_str, Dz.asInt_int, Dz.asLst_lst, Dz.asTup_tup, Dz.add_str', Dz.add_lst', Dz.add_tup', Dz.mul_int', Dz.mul_str', Dz.mod_int'', Dz.div_int', Dz.ix_lst', Dz.ix_tup', Dz.ix_str', Dz.sl_lst', Dz.sl_tup', Dz.sl_str', Dz.neg_int', Dz.at0, Dz.at1, Dz.at2, Dz.at3, Dz.at4, Dz.at5, Dz.at6, Dz.at7, Dz.int_int', Dz.int_bl', Dz.tupF_lst, Dz.tupF_tup, Dz.lstF_lst, Dz.lstF_tup, Dz.is_bl', Dz.not_bl', Dz.take_eq, Dz.some_some, Dz.two_eq, List.length_cons, List.length_nil, List.map_cons, List.map_nil, List.append_nil, List.cons_append, List.nil_append, Nat.reduceAdd, Nat.reduceSub, Nat.reduceLeDiff, Nat.zero_add, Int.toNat_natCast, if_true, if_false, Bool.false_eq_true, Bool.not_true, Bool.not_false, true_and, and_true, ite_true, ite_false, Dz.e_fld, Dz.obj_f, Dz.e_meth, Dz.is_obj, Dz.e_make, Dz.e_own1, Dz.e_ownIn, Dz.is_c, Dz.e_star, Dz.sq_lst, Dz.sq_tup, Dz.isL_lst, Dz.e_zip2, Dz.e_enum, Dz.e_sortSet, Dz.own_own, Dz.e_sown, Dz.e_sapp, Dz.e_sput, Dz.e_sins, Dz.e_sext, Dz.e_sfrz, Dz.e_ixo, Dz.e_truo, Dz.slf_slf, Dz.e_sslf, Dz.e_mslf, Dz.e_runI2, Dz.max2, Dz.min2, Dz.e_not, Dz.e_isiT, Dz.isi_lst_lt, Dz.isi_tup_lt, List.getElem?_cons_zero, List.getElem?_cons_succ, isi_non_int, isi_non_bool, isi_non_str, isi_non_tuple, isi_non_list, isi_non_dict, isi_bl_int, isi_bl_bool, isi_bl_str, isi_bl_tuple, isi_bl_list, isi_bl_dict, isi_int_int, isi_int_bool, isi_int_str, isi_int_tuple, isi_int_list, isi_int_dict, isi_str_int, isi_str_bool, isi_str_str, isi_str_tuple, isi_str_list, isi_str_dict, isi_tup_int, isi_tup_bool, isi_tup_str, isi_tup_tuple, isi_tup_list, isi_tup_dict, isi_lst_int, isi_lst_bool, isi_lst_str, isi_lst_tuple, isi_lst_list, isi_lst_dict, isi_dic_int, isi_dic_bool, isi_dic_str, isi_dic_tuple, isi_dic_list, isi_dic_dict]
      exact hN _ ⟨_, _, _, _, _, _, _, _, _, _, _, _, _, _, _, _, _, rfl⟩
    · obtain ⟨x0, x2, x4, x6, x7, x8, x9, x10, x11, x13, x14, x15, x16, x17, rfl⟩ := hI'
      simp -implicitDefEqProofs only [Dz.e_rng1, Dz.e_rngQ, Dz.e_seq, Dz.e_next, Dz.e_brk, Dz.e_cont, Dz.e_drop, Dz.e_ifS, Dz.e_asg, Dz.e_par, Dz.e_ret, Dz.e_retN, Dz.e_for, Dz.e_run1, Dz.e_run2, Dz.e_run3, Dz.e_run4, Dz.e_run5, Dz.e_run6, Dz.e_run7, Dz.e_run8, Dz.e_rep0, Dz.e_rep1, Dz.e_rep2, Dz.e_rep3, Dz.e_rep4, Dz.e_rep5, Dz.e_rep6, Dz.e_rep7, Dz.e_rep8, Dz.e_rep9, Dz.e_rep10, Dz.e_rep11, Dz.e_rep12, Dz.e_rep13, Dz.e_rep14, Dz.e_rep15, Dz.e_rep16, Dz.e_rep17, Dz.e_rep18, Dz.e_rep19, Dz.e_rep20, Dz.e_rep21, Dz.e_rep22, Dz.e_rep23, Dz.e_rep24, Dz.e_rep25, Dz.e_v0, Dz.e_s0, Dz.e_v1, Dz.e_s1, Dz.e_v2, Dz.e_s2, Dz.e_v3, Dz.e_s3, Dz.e_v4, Dz.e_s4, Dz.e_v5, Dz.e_s5, Dz.e_v6, Dz.e_s6, Dz.e_v7, Dz.e_s7, Dz.e_v8, Dz.e_s8, Dz.e_v9, Dz.e_s9, Dz.e_v10, Dz.e_s10, Dz.e_v11, Dz.e_s11, Dz.e_v12, Dz.e_s12, Dz.e_v13, Dz.e_s13, Dz.e_v14, Dz.e_s14, Dz.e_v15, Dz.e_s15, Dz.e_v16, Dz.e_s16, Dz.e_v17, Dz.e_s17, Dz.e_v18, Dz.e_s18, Dz.e_v19, Dz.e_s19, Dz.e_v20, Dz.e_s20, Dz.e_v21, Dz.e_s21, Dz.e_v22, Dz.e_s22, Dz.e_v23, Dz.e_s23, Dz.e_v24, Dz.e_s24, Dz.e_v25, Dz.e_s25, Dz.e_c, Dz.e_bin, Dz.e_un, Dz.e_test, Dz.e_tru, Dz.e_and, Dz.e_or, Dz.e_not, Dz.e_yes, Dz.e_andV, Dz.e_orV, Dz.e_notV, Dz.e_orT, Dz.e_andT, Dz.e_if, Dz.e_nil, Dz.e_cons, Dz.e_tup, Dz.e_lst, Dz.e_call, Dz.e_fn, Dz.e_chain, Dz.e_noP, Dz.e_part, Dz.e_sl, Dz.e_m1, Dz.e_m0, Dz.e_gv, Dz.e_gt, Dz.e_gc, Dz.e_gn, Dz.e_lc, Dz.e_w0, Dz.e_w1, Dz.e_list, Dz.e_tupI, Dz.e_strI, Dz.tru_bl, Dz.tru_int, Dz.tru_lst, Dz.tru_tup, Dz.tru_str, Dz.len_lst, Dz.len_tup, Dz.len_str, Dz.add_int', Dz.sub_int', Dz.lt_int', Dz.le_int', Dz.gt_int', Dz.ge_int', Dz.eq_int', Dz.ne_int', Dz.eq_str', Dz.ne_str', Dz.asBl_bl, Dz.asStr_str, Dz.asInt_int, Dz.asLst_lst, Dz.asTup_tup, Dz.add_str', Dz.add_lst', Dz.add_tup', Dz.mul_int', Dz.mul_str', Dz.mod_int'', Dz.div_int', Dz.ix_lst', Dz.ix_tup', Dz.ix_str', Dz.sl_lst', Dz.sl_tup', Dz.sl_str', Dz.neg_int', Dz.at0, Dz.at1, Dz.at2, Dz.at3, Dz.at4, Dz.at5, Dz.at6, Dz.at7, Dz.int_int', Dz.int_bl', Dz.tupF_lst, Dz.tupF_tup, Dz.lstF_lst, Dz.lstF_tup, Dz.is_bl', Dz.not_bl', Dz.take_eq, Dz.some_some, Dz.two_eq, List.length_cons, List.length_nil, List.map_cons, List.map_nil, List.append_nil, List.cons_append, List.nil_append, Nat.reduceAdd, Nat.reduceSub, Nat.reduceLeDiff, Nat.zero_add, Int.toNat_natCast, if_true, if_false, Bool.false_eq_true, Bool.not_true, Bool.not_false, true_and, and_true, ite_true, ite_false, Dz.e_fld, Dz.obj_f, Dz.e_meth, Dz.is_obj, Dz.e_make, Dz.e_own1, Dz.e_ownIn, Dz.is_c, Dz.e_star, Dz.sq_lst, Dz.sq_tup, Dz.isL_lst, Dz.e_zip2, Dz.e_enum, Dz.e_sortSet, Dz.own_own, Dz.e_sown, Dz.e_sapp, Dz.e_sput, Dz.e_sins, Dz.e_sext, Dz.e_sfrz, Dz.e_ixo, Dz.e_truo, Dz.slf_slf, Dz.e_sslf, Dz.e_mslf, Dz.e_runI2, Dz.max2, Dz.min2, Dz.e_not, Dz.e_isiT, Dz.isi_lst_lt, Dz.isi_tup_lt, List.getElem?_cons_zero, List.getElem?_cons_succ, isi_non_int, isi_non_bool, isi_non_str, isi_non_tuple, isi_non_list, isi_non_dict, isi_bl_int, isi_bl_bool, isi_bl_str, isi_bl_tuple, isi_bl_list, isi_bl_dict, isi_int_int, isi_int_bool, isi_int_str, isi_int_tuple, isi_int_list, isi_int_dict, isi_str_int, isi_str_bool, isi_str_str, isi_str_tuple, isi_str_list, isi_str_dict, isi_tup_int, isi_tup_bool, isi_tup_str, isi_tup_tuple, isi_tup_list, isi_tup_dict, isi_lst_int, isi_lst_bool, isi_lst_str, isi_lst_tuple, isi_lst_list, isi_lst_dict, isi_dic_int, isi_dic_bool, isi_dic_str, isi_dic_tuple, isi_dic_list, isi_dic_dict, pow9]
      rw [zip_map]
      refine for_inv (fun rest ρ => ∃ R, rest = R.map (pz c) ∧ (∀ z ∈ R, Good z.1 z.2) ∧ St2 c zs ρ) _ _ ⟨zs, rfl, gz, _, _, _, _, _, _, _, _, _, _, _, _, _, _, rfl⟩ (fun ρ hρ => ?_) (fun d'' ds'' ρ N'' hI'' hN'' => ?_)
      · obtain ⟨R, e, _, hρ⟩ := hρ
        exact hN' _ hρ
      · obtain ⟨R, e, hR, x0, x2, x4, x6, x7, x8, x9, x10, x11, x13, x14, x15, x16, x17, rfl⟩ := hI''
        match R, e, hR with
        | z :: R, e, hR =>
          cases e
          have g := hR z List.mem_cons_self
          unfold pz
          simp -implicitDefEqProofs only [Dz.e_rng1, Dz.e_rngQ, Dz.e_seq, Dz.e_next, Dz.e_brk, Dz.e_cont, Dz.e_drop, Dz.e_ifS, Dz.e_asg, Dz.e_par, Dz.e_ret, Dz.e_retN, Dz.e_for, Dz.e_run1, Dz.e_run2, Dz.e_run3, Dz.e_run4, Dz.e_run5, Dz.e_run6, Dz.e_run7, Dz.e_run8, Dz.e_rep0, Dz.e_rep1, Dz.e_rep2, Dz.e_rep3, Dz.e_rep4, Dz.e_rep5, Dz.e_rep6, Dz.e_rep7, Dz.e_rep8, Dz.e_rep9, Dz.e_rep10, Dz.e_rep11, Dz.e_rep12, Dz.e_rep13, Dz.e_rep14, Dz.e_rep15, Dz.e_rep16, Dz.e_rep17, Dz.e_rep18, Dz.e_rep19, Dz.e_rep20, Dz.e_rep21, Dz.e_rep22, Dz.e_rep23, Dz.e_rep24, Dz.e_rep25, Dz.e_v0, Dz.e_s0, Dz.e_v1, Dz.e_s1, Dz.e_v2, Dz.e_s2, Dz.e_v3, Dz.e_s3, Dz.e_v4, Dz.e_s4, Dz.e_v5, Dz.e_s5, Dz.e_v6, Dz.e_s6, Dz.e_v7, Dz.e_s7, Dz.e_v8, Dz.e_s8, Dz.e_v9, Dz.e_s9, Dz.e_v10, Dz.e_s10, Dz.e_v11, Dz.e_s11, Dz.e_v12, Dz.e_s12, Dz.e_v13, Dz.e_s13, Dz.e_v14, Dz.e_s14, Dz.e_v15, Dz.e_s15, Dz.e_v16, Dz.e_s16, Dz.e_v17, Dz.e_s17, Dz.e_v18, Dz.e_s18, Dz.e_v19, Dz.e_s19, Dz.e_v20, Dz.e_s20, Dz.e_v21, Dz.e_s21, Dz.e_v22, Dz.e_s22, Dz.e_v23, Dz.e_s23, Dz.e_v24, Dz.e_s24, Dz.e_v25, Dz.e_s25, Dz.e_c, Dz.e_bin, Dz.e_un, Dz.e_test, Dz.e_tru, Dz.e_and, Dz.e_or, Dz.e_not, Dz.e_yes, Dz.e_andV, Dz.e_orV, Dz.e_notV, Dz.e_orT, Dz.e_andT, Dz.e_if, Dz.e_nil, Dz.e_cons, Dz.e_tup, Dz.e_lst, Dz.e_call, Dz.e_fn, Dz.e_chain, Dz.e_noP, Dz.e_part, Dz.e_sl, Dz.e_m1, Dz.e_m0, Dz.e_gv, Dz.e_gt, Dz.e_gc, Dz.e_gn, Dz.e_lc, Dz.e_w0, Dz.e_w1, Dz.e_list, Dz.e_tupI, Dz.e_strI, Dz.tru_bl, Dz.tru_int, Dz.tru_lst, Dz.tru_tup, Dz.tru_str, Dz.len_lst, Dz.len_tup, Dz.len_str, Dz.add_int', Dz.sub_int', Dz.lt_int', Dz.le_int', Dz.gt_int', Dz.ge_int', Dz.eq_int', Dz.ne_int', Dz.eq_str', Dz.ne_str', Dz.asBl_bl, Dz.asStr_str, Dz.asInt_int, Dz.asLst_lst, Dz.asTup_tup, Dz.add_str', Dz.add_lst', Dz.add_tup', Dz.mul_int', Dz.mul_str', Dz.mod_int'', Dz.div_int', Dz.ix_lst', Dz.ix_tup', Dz.ix_str', Dz.sl_lst', Dz.sl_tup', Dz.sl_str', Dz.neg_int', Dz.at0, Dz.at1, Dz.at2, Dz.at3, Dz.at4, Dz.at5, Dz.at6, Dz.at7, Dz.int_int', Dz.int_bl', Dz.tupF_lst, Dz.tupF_tup, Dz.lstF_lst, Dz.lstF_tup, Dz.is_bl', Dz.not_bl', Dz.take_eq, Dz.some_some, Dz.two_eq, List.length_cons, List.length_nil, List.map_cons, List.map_nil, List.append_nil, List.cons_append, List.nil_append, Nat.reduceAdd, Nat.reduceSub, Nat.reduceLeDiff, Nat.zero_add, Int.toNat_natCast, if_true, if_false, Bool.false_eq_true, Bool.not_true, Bool.not_false, true_and, and_true, ite_true, ite_false, Dz.e_fld, Dz.obj_f, Dz.e_meth, Dz.is_obj, Dz.e_make, Dz.e_own1, Dz.e_ownIn, Dz.is_c, Dz.e_star, Dz.sq_lst, Dz.sq_tup, Dz.isL_lst, Dz.e_zip2, Dz.e_enum, Dz.e_sortSet, Dz.own_own, Dz.e_sown, Dz.e_sapp, Dz.e_sput, Dz.e_sins, Dz.e_sext, Dz.e_sfrz, Dz.e_ixo, Dz.e_truo, Dz.slf_slf, Dz.e_sslf, Dz.e_mslf, Dz.e_runI2, Dz.max2, Dz.min2, Dz.e_not, Dz.e_isiT, Dz.isi_lst_lt, Dz.isi_tup_lt, List.getElem?_cons_zero, List.getElem?_cons_succ, isi_non_int, isi_non_bool, isi_non_str, isi_non_tuple, isi_non_list, isi_non_dict, isi_bl_int, isi_bl_bool, isi_bl_str, isi_bl_tuple, isi_bl_list, isi_bl_dict, isi_int_int, isi_int_bool, isi_int_str, isi_int_tuple, isi_int_list, isi_int_dict, isi_str_int, isi_str_bool, isi_str_str, isi_str_tuple, isi_str_list, isi_str_dict, isi_tup_int, isi_tup_bool, isi_tup_str, isi_tup_tuple, isi_tup_list, isi_tup_dict, isi_lst_int, isi_lst_bool, isi_lst_str, isi_lst_tuple, isi_lst_list, isi_lst_dict, isi_dic_int, isi_dic_bool, isi_dic_str, isi_dic_tuple, isi_dic_list, isi_dic_dict, pow9]
          refine ⟨by decide, points_spec c z.1 (by have := g.lenS; omega) _ fun ms m1 m2 => ?_⟩
          have msl := ms_len g.lenS m1 m2
          simp -implicitDefEqProofs only [Dz.e_rng1, Dz.e_rngQ, Dz.e_seq, Dz.e_next, Dz.e_brk, Dz.e_cont, Dz.e_drop, Dz.e_ifS, Dz.e_asg, Dz.e_par, Dz.e_ret, Dz.e_retN, Dz.e_for, Dz.e_run1, Dz.e_run2, Dz.e_run3, Dz.e_run4, Dz.e_run5, Dz.e_run6, Dz.e_run7, Dz.e_run8, Dz.e_rep0, Dz.e_rep1, Dz.e_rep2, Dz.e_rep3, Dz.e_rep4, Dz.e_rep5, Dz.e_rep6, Dz.e_rep7, Dz.e_rep8, Dz.e_rep9, Dz.e_rep10, Dz.e_rep11, Dz.e_rep12, Dz.e_rep13, Dz.e_rep14, Dz.e_rep15, Dz.e_rep16, Dz.e_rep17, Dz.e_rep18, Dz.e_rep19, Dz.e_rep20, Dz.e_rep21, Dz.e_rep22, Dz.e_rep23, Dz.e_rep24, Dz.e_rep25, Dz.e_v0, Dz.e_s0, Dz.e_v1, Dz.e_s1, Dz.e_v2, Dz.e_s2, Dz.e_v3, Dz.e_s3, Dz.e_v4, Dz.e_s4, Dz.e_v5, Dz.e_s5, Dz.e_v6, Dz.e_s6, Dz.e_v7, Dz.e_s7, Dz.e_v8, Dz.e_s8, Dz.e_v9, Dz.e_s9, Dz.e_v10, Dz.e_s10, Dz.e_v11, Dz.e_s11, Dz.e_v12, Dz.e_s12, Dz.e_v13, Dz.e_s13, Dz.e_v14, Dz.e_s14, Dz.e_v15, Dz.e_s15, Dz.e_v16, Dz.e_s16, Dz.e_v17, Dz.e_s17, Dz.e_v18, Dz.e_s18, Dz.e_v19, Dz.e_s19, Dz.e_v20, Dz.e_s20, Dz.e_v21, Dz.e_s21, Dz.e_v22, Dz.e_s22, Dz.e_v23, Dz.e_s23, Dz.e_v24, Dz.e_s24, Dz.e_v25, Dz.e_s25, Dz.e_c, Dz.e_bin, Dz.e_un, Dz.e_test, Dz.e_tru, Dz.e_and, Dz.e_or, Dz.e_not, Dz.e_yes, Dz.e_andV, Dz.e_orV, Dz.e_notV, Dz.e_orT, Dz.e_andT, Dz.e_if, Dz.e_nil, Dz.e_cons, Dz.e_tup, Dz.e_lst, Dz.e_call, Dz.e_fn, Dz.e_chain, Dz.e_noP, Dz.e_part, Dz.e_sl, Dz.e_m1, Dz.e_m0, Dz.e_gv, Dz.e_gt, Dz.e_gc, Dz.e_gn, Dz.e_lc, Dz.e_w0, Dz.e_w1, Dz.e_list, Dz.e_tupI, Dz.e_strI, Dz.tru_bl, Dz.tru_int, Dz.tru_lst, Dz.tru_tup, Dz.tru_str, Dz.len_lst, Dz.len_tup, Dz.len_str, Dz.add_int', Dz.sub_int', Dz.lt_int', Dz.le_int', Dz.gt_int', Dz.ge_int', Dz.eq_int', Dz.ne_int', Dz.eq_str', Dz.ne_str', Dz.asBl_bl, Dz.asStr_str, Dz.asInt_int, Dz.asLst_lst, Dz.asTup_tup, Dz.add_str', Dz.add_lst', Dz.add_tup', Dz.mul_int', Dz.mul_str', Dz.mod_int'', Dz.div_int', Dz.ix_lst', Dz.ix_tup', Dz.ix_str', Dz.sl_lst', Dz.sl_tup', Dz.sl_str', Dz.neg_int', Dz.at0, Dz.at1, Dz.at2, Dz.at3, Dz.at4, Dz.at5, Dz.at6, Dz.at7, Dz.int_int', Dz.int_bl', Dz.tupF_lst, Dz.tupF_tup, Dz.lstF_lst, Dz.lstF_tup, Dz.is_bl', Dz.not_bl', Dz.take_eq, Dz.some_some, Dz.two_eq, List.length_cons, List.length_nil, List.map_cons, List.map_nil, List.append_nil, List.cons_append, List.nil_append, Nat.reduceAdd, Nat.reduceSub, Nat.reduceLeDiff, Nat.zero_add, Int.toNat_natCast, if_true, if_false, Bool.false_eq_true, Bool.not_true, Bool.not_false, true_and, and_true, ite_true, ite_false, Dz.e_fld, Dz.obj_f, Dz.e_meth, Dz.is_obj, Dz.e_make, Dz.e_own1, Dz.e_ownIn, Dz.is_c, Dz.e_star, Dz.sq_lst, Dz.sq_tup, Dz.isL_lst, Dz.e_zip2, Dz.e_enum, Dz.e_sortSet, Dz.own_own, Dz.e_sown, Dz.e_sapp, Dz.e_sput, Dz.e_sins, Dz.e_sext, Dz.e_sfrz, Dz.e_ixo, Dz.e_truo, Dz.slf_slf, Dz.e_sslf, Dz.e_mslf, Dz.e_runI2, Dz.max2, Dz.min2, Dz.e_not, Dz.e_isiT, Dz.isi_lst_lt, Dz.isi_tup_lt, List.getElem?_cons_zero, List.getElem?_cons_succ, isi_non_int, isi_non_bool, isi_non_str, isi_non_tuple, isi_non_list, isi_non_dict, isi_bl_int, isi_bl_bool, isi_bl_str, isi_bl_tuple, isi_bl_list, isi_bl_dict, isi_int_int, isi_int_bool, isi_int_str, isi_int_tuple, isi_int_list, isi_int_dict, isi_str_int, isi_str_bool, isi_str_str, isi_str_tuple, isi_str_list, isi_str_dict, isi_tup_int, isi_tup_bool, isi_tup_str, isi_tup_tuple, isi_tup_list, isi_tup_dict, isi_lst_int, isi_lst_bool, isi_lst_str, isi_lst_tuple, isi_lst_list, isi_lst_dict, isi_dic_int, isi_dic_bool, isi_dic_str, isi_dic_tuple, isi_dic_list, isi_dic_dict]
          refine ⟨by rw [List.length_map]; exact size_le (by omega), ?_⟩
          refine comp_filterL D.int D.int (fun x => has z.1 x) ms _ (fun a _ Q q => ?_) (fun a _ _ Q q => ?_) ?_
          · simp -implicitDefEqProofs only [Dz.e_rng1, Dz.e_rngQ, Dz.e_seq, Dz.e_next, Dz.e_brk, Dz.e_cont, Dz.e_drop, Dz.e_ifS, Dz.e_asg, Dz.e_par, Dz.e_ret, Dz.e_retN, Dz.e_for, Dz.e_run1, Dz.e_run2, Dz.e_run3, Dz.e_run4, Dz.e_run5, Dz.e_run6, Dz.e_run7, Dz.e_run8, Dz.e_rep0, Dz.e_rep1, Dz.e_rep2, Dz.e_rep3, Dz.e_rep4, Dz.e_rep5, Dz.e_rep6, Dz.e_rep7, Dz.e_rep8, Dz.e_rep9, Dz.e_rep10, Dz.e_rep11, Dz.e_rep12, Dz.e_rep13, Dz.e_rep14, Dz.e_rep15, Dz.e_rep16, Dz.e_rep17, Dz.e_rep18, Dz.e_rep19, Dz.e_rep20, Dz.e_rep21, Dz.e_rep22, Dz.e_rep23, Dz.e_rep24, Dz.e_rep25, Dz.e_v0, Dz.e_s0, Dz.e_v1, Dz.e_s1, Dz.e_v2, Dz.e_s2, Dz.e_v3, Dz.e_s3, Dz.e_v4, Dz.e_s4, Dz.e_v5, Dz.e_s5, Dz.e_v6, Dz.e_s6, Dz.e_v7, Dz.e_s7, Dz.e_v8, Dz.e_s8, Dz.e_v9, Dz.e_s9, Dz.e_v10, Dz.e_s10, Dz.e_v11, Dz.e_s11, Dz.e_v12, Dz.e_s12, Dz.e_v13, Dz.e_s13, Dz.e_v14, Dz.e_s14, Dz.e_v15, Dz.e_s15, Dz.e_v16, Dz.e_s16, Dz.e_v17, Dz.e_s17, Dz.e_v18, Dz.e_s18, Dz.e_v19, Dz.e_s19, Dz.e_v20, Dz.e_s20, Dz.e_v21, Dz.e_s21, Dz.e_v22, Dz.e_s22, Dz.e_v23, Dz.e_s23, Dz.e_v24, Dz.e_s24, Dz.e_v25, Dz.e_s25, Dz.e_c, Dz.e_bin, Dz.e_un, Dz.e_test, Dz.e_tru, Dz.e_and, Dz.e_or, Dz.e_not, Dz.e_yes, Dz.e_andV, Dz.e_orV, Dz.e_notV, Dz.e_orT, Dz.e_andT, Dz.e_if, Dz.e_nil, Dz.e_cons, Dz.e_tup, Dz.e_lst, Dz.e_call, Dz.e_fn, Dz.e_chain, Dz.e_noP, Dz.e_part, Dz.e_sl, Dz.e_m1, Dz.e_m0, Dz.e_gv, Dz.e_gt, Dz.e_gc, Dz.e_gn, Dz.e_lc, Dz.e_w0, Dz.e_w1, Dz.e_list, Dz.e_tupI, Dz.e_strI, Dz.tru_bl, Dz.tru_int, Dz.tru_lst, Dz.tru_tup, Dz.tru_str, Dz.len_lst, Dz.len_tup, Dz.len_str, Dz.add_int', Dz.sub_int', Dz.lt_int', Dz.le_int', Dz.gt_int', Dz.ge_int', Dz.eq_int', Dz.ne_int', Dz.eq_str', Dz.ne_str', Dz.asBl_bl, Dz.asStr_str, Dz.asInt_int, Dz.asLst_lst, Dz.asTup_tup, Dz.add_str', Dz.add_lst', Dz.add_tup', Dz.mul_int', Dz.mul_str', Dz.mod_int'', Dz.div_int', Dz.ix_lst', Dz.ix_tup', Dz.ix_str', Dz.sl_lst', Dz.sl_tup', Dz.sl_str', Dz.neg_int', Dz.at0, Dz.at1, Dz.at2, Dz.at3, Dz.at4, Dz.at5, Dz.at6, Dz.at7, Dz.int_int', Dz.int_bl', Dz.tupF_lst, Dz.tupF_tup, Dz.lstF_lst, Dz.lstF_tup, Dz.is_bl', Dz.not_bl', Dz.take_eq, Dz.some_some, Dz.two_eq, List.length_cons, List.length_nil, List.map_cons, List.map_nil, List.append_nil, List.cons_append, List.nil_append, Nat.reduceAdd, Nat.reduceSub, Nat.reduceLeDiff, Nat.zero_add, Int.toNat_natCast, if_true, if_false, Bool.false_eq_true, Bool.not_true, Bool.not_false, true_and, and_true, ite_true, ite_false, Dz.e_fld, Dz.obj_f, Dz.e_meth, Dz.is_obj, Dz.e_make, Dz.e_own1, Dz.e_ownIn, Dz.is_c, Dz.e_star, Dz.sq_lst, Dz.sq_tup, Dz.isL_lst, Dz.e_zip2, Dz.e_enum, Dz.e_sortSet, Dz.own_own, Dz.e_sown, Dz.e_sapp, Dz.e_sput, Dz.e_sins, Dz.e_sext, Dz.e_sfrz, Dz.e_ixo, Dz.e_truo, Dz.slf_slf, Dz.e_sslf, Dz.e_mslf, Dz.e_runI2, Dz.max2, Dz.min2, Dz.e_not, Dz.e_isiT, Dz.isi_lst_lt, Dz.isi_tup_lt, List.getElem?_cons_zero, List.getElem?_cons_succ, isi_non_int, isi_non_bool, isi_non_str, isi_non_tuple, isi_non_list, isi_non_dict, isi_bl_int, isi_bl_bool, isi_bl_str, isi_bl_tuple, isi_bl_list, isi_bl_dict, isi_int_int, isi_int_bool, isi_int_str, isi_int_tuple, isi_int_list, isi_int_dict, isi_str_int, isi_str_bool, isi_str_str, isi_str_tuple, isi_str_list, isi_str_dict, isi_tup_int, isi_tup_bool, isi_tup_str, isi_tup_tuple, isi_tup_list, isi_tup_dict, isi_lst_int, isi_lst_bool, isi_lst_str, isi_lst_tuple, isi_lst_list, isi_lst_dict, isi_dic_int, isi_dic_bool, isi_dic_str, isi_dic_tuple, isi_dic_list, isi_dic_dict]
            refine hasday_spec c z.1 (by have := g.lenS; omega) a _ ?_
            simp -implicitDefEqProofs only [Dz.e_rng1, Dz.e_rngQ, Dz.e_seq, Dz.e_next, Dz.e_brk, Dz.e_cont, Dz.e_drop, Dz.e_ifS, Dz.e_asg, Dz.e_par, Dz.e_ret, Dz.e_retN, Dz.e_for, Dz.e_run1, Dz.e_run2, Dz.e_run3, Dz.e_run4, Dz.e_run5, Dz.e_run6, Dz.e_run7, Dz.e_run8, Dz.e_rep0, Dz.e_rep1, Dz.e_rep2, Dz.e_rep3, Dz.e_rep4, Dz.e_rep5, Dz.e_rep6, Dz.e_rep7, Dz.e_rep8, Dz.e_rep9, Dz.e_rep10, Dz.e_rep11, Dz.e_rep12, Dz.e_rep13, Dz.e_rep14, Dz.e_rep15, Dz.e_rep16, Dz.e_rep17, Dz.e_rep18, Dz.e_rep19, Dz.e_rep20, Dz.e_rep21, Dz.e_rep22, Dz.e_rep23, Dz.e_rep24, Dz.e_rep25, Dz.e_v0, Dz.e_s0, Dz.e_v1, Dz.e_s1, Dz.e_v2, Dz.e_s2, Dz.e_v3, Dz.e_s3, Dz.e_v4, Dz.e_s4, Dz.e_v5, Dz.e_s5, Dz.e_v6, Dz.e_s6, Dz.e_v7, Dz.e_s7, Dz.e_v8, Dz.e_s8, Dz.e_v9, Dz.e_s9, Dz.e_v10, Dz.e_s10, Dz.e_v11, Dz.e_s11, Dz.e_v12, Dz.e_s12, Dz.e_v13, Dz.e_s13, Dz.e_v14, Dz.e_s14, Dz.e_v15, Dz.e_s15, Dz.e_v16, Dz.e_s16, Dz.e_v17, Dz.e_s17, Dz.e_v18, Dz.e_s18, Dz.e_v19, Dz.e_s19, Dz.e_v20, Dz.e_s20, Dz.e_v21, Dz.e_s21, Dz.e_v22, Dz.e_s22, Dz.e_v23, Dz.e_s23, Dz.e_v24, Dz.e_s24, Dz.e_v25, Dz.e_s25, Dz.e_c, Dz.e_bin, Dz.e_un, Dz.e_test, Dz.e_tru, Dz.e_and, Dz.e_or, Dz.e_not, Dz.e_yes, Dz.e_andV, Dz.e_orV, Dz.e_notV, Dz.e_orT, Dz.e_andT, Dz.e_if, Dz.e_nil, Dz.e_cons, Dz.e_tup, Dz.e_lst, Dz.e_call, Dz.e_fn, Dz.e_chain, Dz.e_noP, Dz.e_part, Dz.e_sl, Dz.e_m1, Dz.e_m0, Dz.e_gv, Dz.e_gt, Dz.e_gc, Dz.e_gn, Dz.e_lc, Dz.e_w0, Dz.e_w1, Dz.e_list, Dz.e_tupI, Dz.e_strI, Dz.tru_bl, Dz.tru_int, Dz.tru_lst, Dz.tru_tup, Dz.tru_str, Dz.len_lst, Dz.len_tup, Dz.len_str, Dz.add_int', Dz.sub_int', Dz.lt_int', Dz.le_int', Dz.gt_int', Dz.ge_int', Dz.eq_int', Dz.ne_int', Dz.eq_str', Dz.ne_str', Dz.asBl_bl, Dz.asStr_str, Dz.asInt_int, Dz.asLst_lst, Dz.asTup_tup, Dz.add_str', Dz.add_lst', Dz.add_tup', Dz.mul_int', Dz.mul_str', Dz.mod_int'', Dz.div_int', Dz.ix_lst', Dz.ix_tup', Dz.ix_str', Dz.sl_lst', Dz.sl_tup', Dz.sl_str', Dz.neg_int', Dz.at0, Dz.at1, Dz.at2, Dz.at3, Dz.at4, Dz.at5, Dz.at6, Dz.at7, Dz.int_int', Dz.int_bl', Dz.tupF_lst, Dz.tupF_tup, Dz.lstF_lst, Dz.lstF_tup, Dz.is_bl', Dz.not_bl', Dz.take_eq, Dz.some_some, Dz.two_eq, List.length_cons, List.length_nil, List.map_cons, List.map_nil, List.append_nil, List.cons_append, List.nil_append, Nat.reduceAdd, Nat.reduceSub, Nat.reduceLeDiff, Nat.zero_add, Int.toNat_natCast, if_true, if_false, Bool.false_eq_true, Bool.not_true, Bool.not_false, true_and, and_true, ite_true, ite_false, Dz.e_fld, Dz.obj_f, Dz.e_meth, Dz.is_obj, Dz.e_make, Dz.e_own1, Dz.e_ownIn, Dz.is_c, Dz.e_star, Dz.sq_lst, Dz.sq_tup, Dz.isL_lst, Dz.e_zip2, Dz.e_enum, Dz.e_sortSet, Dz.own_own, Dz.e_sown, Dz.e_sapp, Dz.e_sput, Dz.e_sins, Dz.e_sext, Dz.e_sfrz, Dz.e_ixo, Dz.e_truo, Dz.slf_slf, Dz.e_sslf, Dz.e_mslf, Dz.e_runI2, Dz.max2, Dz.min2, Dz.e_not, Dz.e_isiT, Dz.isi_lst_lt, Dz.isi_tup_lt, List.getElem?_cons_zero, List.getElem?_cons_succ, isi_non_int, isi_non_bool, isi_non_str, isi_non_tuple, isi_non_list, isi_non_dict, isi_bl_int, isi_bl_bool, isi_bl_str, isi_bl_tuple, isi_bl_list, isi_bl_dict, isi_int_int, isi_int_bool, isi_int_str, isi_int_tuple, isi_int_list, isi_int_dict, isi_str_int, isi_str_bool, isi_str_str, isi_str_tuple, isi_str_list, isi_str_dict, isi_tup_int, isi_tup_bool, isi_tup_str, isi_tup_tuple, isi_tup_list, isi_tup_dict, isi_lst_int, isi_lst_bool, isi_lst_str, isi_lst_tuple, isi_lst_list, isi_lst_dict, isi_dic_int, isi_dic_bool, isi_dic_str, isi_dic_tuple, isi_dic_list, isi_dic_dict]
            exact q
          · simp -implicitDefEqProofs only [Dz.e_rng1, Dz.e_rngQ, Dz.e_seq, Dz.e_next, Dz.e_brk, Dz.e_cont, Dz.e_drop, Dz.e_ifS, Dz.e_asg, Dz.e_par, Dz.e_ret, Dz.e_retN, Dz.e_for, Dz.e_run1, Dz.e_run2, Dz.e_run3, Dz.e_run4, Dz.e_run5, Dz.e_run6, Dz.e_run7, Dz.e_run8, Dz.e_rep0, Dz.e_rep1, Dz.e_rep2, Dz.e_rep3, Dz.e_rep4, Dz.e_rep5, Dz.e_rep6, Dz.e_rep7, Dz.e_rep8, Dz.e_rep9, Dz.e_rep10, Dz.e_rep11, Dz.e_rep12, Dz.e_rep13, Dz.e_rep14, Dz.e_rep15, Dz.e_rep16, Dz.e_rep17, Dz.e_rep18, Dz.e_rep19, Dz.e_rep20, Dz.e_rep21, Dz.e_rep22, Dz.e_rep23, Dz.e_rep24, Dz.e_rep25, Dz.e_v0, Dz.e_s0, Dz.e_v1, Dz.e_s1, Dz.e_v2, Dz.e_s2, Dz.e_v3, Dz.e_s3, Dz.e_v4, Dz.e_s4, Dz.e_v5, Dz.e_s5, Dz.e_v6, Dz.e_s6, Dz.e_v7, Dz.e_s7, Dz.e_v8, Dz.e_s8, Dz.e_v9, Dz.e_s9, Dz.e_v10, Dz.e_s10, Dz.e_v11, Dz.e_s11, Dz.e_v12, Dz.e_s12, Dz.e_v13, Dz.e_s13, Dz.e_v14, Dz.e_s14, Dz.e_v15, Dz.e_s15, Dz.e_v16, Dz.e_s16, Dz.e_v17, Dz.e_s17, Dz.e_v18, Dz.e_s18, Dz.e_v19, Dz.e_s19, Dz.e_v20, Dz.e_s20, Dz.e_v21, Dz.e_s21, Dz.e_v22, Dz.e_s22, Dz.e_v23, Dz.e_s23, Dz.e_v24, Dz.e_s24, Dz.e_v25, Dz.e_s25, Dz.e_c, Dz.e_bin, Dz.e_un, Dz.e_test, Dz.e_tru, Dz.e_and, Dz.e_or, Dz.e_not, Dz.e_yes, Dz.e_andV, Dz.e_orV, Dz.e_notV, Dz.e_orT, Dz.e_andT, Dz.e_if, Dz.e_nil, Dz.e_cons, Dz.e_tup, Dz.e_lst, Dz.e_call, Dz.e_fn, Dz.e_chain, Dz.e_noP, Dz.e_part, Dz.e_sl, Dz.e_m1, Dz.e_m0, Dz.e_gv, Dz.e_gt, Dz.e_gc, Dz.e_gn, Dz.e_lc, Dz.e_w0, Dz.e_w1, Dz.e_list, Dz.e_tupI, Dz.e_strI, Dz.tru_bl, Dz.tru_int, Dz.tru_lst, Dz.tru_tup, Dz.tru_str, Dz.len_lst, Dz.len_tup, Dz.len_str, Dz.add_int', Dz.sub_int', Dz.lt_int', Dz.le_int', Dz.gt_int', Dz.ge_int', Dz.eq_int', Dz.ne_int', Dz.eq_str', Dz.ne_str', Dz.asBl_bl, Dz.asStr_str, Dz.asInt_int, Dz.asLst_lst, Dz.asTup_tup, Dz.add_str', Dz.add_lst', Dz.add_tup', Dz.mul_int', Dz.mul_str', Dz.mod_int'', Dz.div_int', Dz.ix_lst', Dz.ix_tup', Dz.ix_str', Dz.sl_lst', Dz.sl_tup', Dz.sl_str', Dz.neg_int', Dz.at0, Dz.at1, Dz.at2, Dz.at3, Dz.at4, Dz.at5, Dz.at6, Dz.at7, Dz.int_int', Dz.int_bl', Dz.tupF_lst, Dz.tupF_tup, Dz.lstF_lst, Dz.lstF_tup, Dz.is_bl', Dz.not_bl', Dz.take_eq, Dz.some_some, Dz.two_eq, List.length_cons, List.length_nil, List.map_cons, List.map_nil, List.append_nil, List.cons_append, List.nil_append, Nat.reduceAdd, Nat.reduceSub, Nat.reduceLeDiff, Nat.zero_add, Int.toNat_natCast, if_true, if_false, Bool.false_eq_true, Bool.not_true, Bool.not_false, true_and, and_true, ite_true, ite_false, Dz.e_fld, Dz.obj_f, Dz.e_meth, Dz.is_obj, Dz.e_make, Dz.e_own1, Dz.e_ownIn, Dz.is_c, Dz.e_star, Dz.sq_lst, Dz.sq_tup, Dz.isL_lst, Dz.e_zip2, Dz.e_enum, Dz.e_sortSet, Dz.own_own, Dz.e_sown, Dz.e_sapp, Dz.e_sput, Dz.e_sins, Dz.e_sext, Dz.e_sfrz, Dz.e_ixo, Dz.e_truo, Dz.slf_slf, Dz.e_sslf, Dz.e_mslf, Dz.e_runI2, Dz.max2, Dz.min2, Dz.e_not, Dz.e_isiT, Dz.isi_lst_lt, Dz.isi_tup_lt, List.getElem?_cons_zero, List.getElem?_cons_succ, isi_non_int, isi_non_bool, isi_non_str, isi_non_tuple, isi_non_list, isi_non_dict, isi_bl_int, isi_bl_bool, isi_bl_str, isi_bl_tuple, isi_bl_list, isi_bl_dict, isi_int_int, isi_int_bool, isi_int_str, isi_int_tuple, isi_int_list, isi_int_dict, isi_str_int, isi_str_bool, isi_str_str, isi_str_tuple, isi_str_list, isi_str_dict, isi_tup_int, isi_tup_bool, isi_tup_str, isi_tup_tuple, isi_tup_list, isi_tup_dict, isi_lst_int, isi_lst_bool, isi_lst_str, isi_lst_tuple, isi_lst_list, isi_lst_dict, isi_dic_int, isi_dic_bool, isi_dic_str, isi_dic_tuple, isi_dic_list, isi_dic_dict]
            exact q
          rw [isO_earliest]
          refine early_spec c z.2 _ ?_
          rw [← g.early ms m1 m2]
          have ho : oin (ms.filter fun x => has z.1 x).head? := by rw [g.early ms m1 m2]; exact oin_of (by omega) g.first
          have fl := List.length_filter_le (fun x => has z.1 x) ms
          refine rep1 _ ho _ ⟨by decide, by rw [List.length_map]; exact size_le (by omega), head_spec _ _ (rep1 _ ho _ ?_)⟩
          rw [ne_same]
          simp -implicitDefEqProofs only [Dz.e_rng1, Dz.e_rngQ, Dz.e_seq, Dz.e_next, Dz.e_brk, Dz.e_cont, Dz.e_drop, Dz.e_ifS, Dz.e_asg, Dz.e_par, Dz.e_ret, Dz.e_retN, Dz.e_for, Dz.e_run1, Dz.e_run2, Dz.e_run3, Dz.e_run4, Dz.e_run5, Dz.e_run6, Dz.e_run7, Dz.e_run8, Dz.e_rep0, Dz.e_rep1, Dz.e_rep2, Dz.e_rep3, Dz.e_rep4, Dz.e_rep5, Dz.e_rep6, Dz.e_rep7, Dz.e_rep8, Dz.e_rep9, Dz.e_rep10, Dz.e_rep11, Dz.e_rep12, Dz.e_rep13, Dz.e_rep14, Dz.e_rep15, Dz.e_rep16, Dz.e_rep17, Dz.e_rep18, Dz.e_rep19, Dz.e_rep20, Dz.e_rep21, Dz.e_rep22, Dz.e_rep23, Dz.e_rep24, Dz.e_rep25, Dz.e_v0, Dz.e_s0, Dz.e_v1, Dz.e_s1, Dz.e_v2, Dz.e_s2, Dz.e_v3, Dz.e_s3, Dz.e_v4, Dz.e_s4, Dz.e_v5, Dz.e_s5, Dz.e_v6, Dz.e_s6, Dz.e_v7, Dz.e_s7, Dz.e_v8, Dz.e_s8, Dz.e_v9, Dz.e_s9, Dz.e_v10, Dz.e_s10, Dz.e_v11, Dz.e_s11, Dz.e_v12, Dz.e_s12, Dz.e_v13, Dz.e_s13, Dz.e_v14, Dz.e_s14, Dz.e_v15, Dz.e_s15, Dz.e_v16, Dz.e_s16, Dz.e_v17, Dz.e_s17, Dz.e_v18, Dz.e_s18, Dz.e_v19, Dz.e_s19, Dz.e_v20, Dz.e_s20, Dz.e_v21, Dz.e_s21, Dz.e_v22, Dz.e_s22, Dz.e_v23, Dz.e_s23, Dz.e_v24, Dz.e_s24, Dz.e_v25, Dz.e_s25, Dz.e_c, Dz.e_bin, Dz.e_un, Dz.e_test, Dz.e_tru, Dz.e_and, Dz.e_or, Dz.e_not, Dz.e_yes, Dz.e_andV, Dz.e_orV, Dz.e_notV, Dz.e_orT, Dz.e_andT, Dz.e_if, Dz.e_nil, Dz.e_cons, Dz.e_tup, Dz.e_lst, Dz.e_call, Dz.e_fn, Dz.e_chain, Dz.e_noP, Dz.e_part, Dz.e_sl, Dz.e_m1, Dz.e_m0, Dz.e_gv, Dz.e_gt, Dz.e_gc, Dz.e_gn, Dz.e_lc, Dz.e_w0, Dz.e_w1, Dz.e_list, Dz.e_tupI, Dz.e_strI, Dz.tru_bl, Dz.tru_int, Dz.tru_lst, Dz.tru_tup, Dz.tru_str, Dz.len_lst, Dz.len_tup, Dz.len_str, Dz.add_int', Dz.sub_int', Dz.lt_int', Dz.le_int', Dz.gt_int', Dz.ge_int', Dz.eq_int', Dz.ne_int', Dz.eq_str', Dz.ne_str', Dz.asBl_bl, Dz.asStr_str, Dz.asInt_int, Dz.asLst_lst, Dz.asTup_tup, Dz.add_str', Dz.add_lst', Dz.add_tup', Dz.mul_int', Dz.mul_str', Dz.mod_int'', Dz.div_int', Dz.ix_lst', Dz.ix_tup', Dz.ix_str', Dz.sl_lst', Dz.sl_tup', Dz.sl_str', Dz.neg_int', Dz.at0, Dz.at1, Dz.at2, Dz.at3, Dz.at4, Dz.at5, Dz.at6, Dz.at7, Dz.int_int', Dz.int_bl', Dz.tupF_lst, Dz.tupF_tup, Dz.lstF_lst, Dz.lstF_tup, Dz.is_bl', Dz.not_bl', Dz.take_eq, Dz.some_some, Dz.two_eq, List.length_cons, List.length_nil, List.map_cons, List.map_nil, List.append_nil, List.cons_append, List.nil_append, Nat.reduceAdd, Nat.reduceSub, Nat.reduceLeDiff, Nat.zero_add, Int.toNat_natCast, if_true, if_false, Bool.false_eq_true, Bool.not_true, Bool.not_false, true_and, and_true, ite_true, ite_false, Dz.e_fld, Dz.obj_f, Dz.e_meth, Dz.is_obj, Dz.e_make, Dz.e_own1, Dz.e_ownIn, Dz.is_c, Dz.e_star, Dz.sq_lst, Dz.sq_tup, Dz.isL_lst, Dz.e_zip2, Dz.e_enum, Dz.e_sortSet, Dz.own_own, Dz.e_sown, Dz.e_sapp, Dz.e_sput, Dz.e_sins, Dz.e_sext, Dz.e_sfrz, Dz.e_ixo, Dz.e_truo, Dz.slf_slf, Dz.e_sslf, Dz.e_mslf, Dz.e_runI2, Dz.max2, Dz.min2, Dz.e_not, Dz.e_isiT, Dz.isi_lst_lt, Dz.isi_tup_lt, List.getElem?_cons_zero, List.getElem?_cons_succ, isi_non_int, isi_non_bool, isi_non_str, isi_non_tuple, isi_non_list, isi_non_dict, isi_bl_int, isi_bl_bool, isi_bl_str, isi_bl_tuple, isi_bl_list, isi_bl_dict, isi_int_int, isi_int_bool, isi_int_str, isi_int_tuple, isi_int_list, isi_int_dict, isi_str_int, isi_str_bool, isi_str_str, isi_str_tuple, isi_str_list, isi_str_dict, isi_tup_int, isi_tup_bool, isi_tup_str, isi_tup_tuple, isi_tup_list, isi_tup_dict, isi_lst_int, isi_lst_bool, isi_lst_str, isi_lst_tuple, isi_lst_list, isi_lst_dict, isi_dic_int, isi_dic_bool, isi_dic_str, isi_dic_tuple, isi_dic_list, isi_dic_dict]
          refine tk _ (by omega) (by omega) fun s1 s10 s11 => ?_
          refine tk _ (by omega) (by omega) fun s2 s20 s21 => ⟨by decide, ?_⟩
          refine for_inv (fun rest ρ => ∃ (kept R : List Int), rest = R.map D.int ∧ (∀ k ∈ kept, 0 ≤ k ∧ k ≤ top) ∧ kept.length + 3 * R.length ≤ 100 ∧ St3 c zs z ms (.own (kept.map D.int)) ρ) _ _ ⟨[0, 1000000000, s1, s2], ms, rfl, fun k hk => ?_, by simp; omega, _, _, _, _, _, _, _, _, _, _, rfl⟩ (fun ρ hρ => ?_) (fun d3 ds3 ρ N3 hI3 hN3 => ?_)
          · simp only [List.mem_cons, List.not_mem_nil, or_false] at hk
            rcases hk with rfl | rfl | rfl | rfl <;> omega
          · obtain ⟨kept, R', e, hk, _, x0, x2, x4, x7, x8, x9, x11, x13, x15, x17, rfl⟩ := hρ
            simp -implicitDefEqProofs only [Dz.e_rng1, Dz.e_rngQ, Dz.e_seq, Dz.e_next, Dz.e_brk, Dz.e_cont, Dz.e_drop, Dz.e_ifS, Dz.e_asg, Dz.e_par, Dz.e_ret, Dz.e_retN, Dz.e_for, Dz.e_run1, Dz.e_run2, Dz.e_run3, Dz.e_run4, Dz.e_run5, Dz.e_run6, Dz.e_run7, Dz.e_run8, Dz.e_rep0, Dz.e_rep1, Dz.e_rep2, Dz.e_rep3, Dz.e_rep4, Dz.e_rep5, Dz.e_rep6, Dz.e_rep7, Dz.e_rep8, Dz.e_rep9, Dz.e_rep10, Dz.e_rep11, Dz.e_rep12, Dz.e_rep13, Dz.e_rep14, Dz.e_rep15, Dz.e_rep16, Dz.e_rep17, Dz.e_rep18, Dz.e_rep19, Dz.e_rep20, Dz.e_rep21, Dz.e_rep22, Dz.e_rep23, Dz.e_rep24, Dz.e_rep25, Dz.e_v0, Dz.e_s0, Dz.e_v1, Dz.e_s1, Dz.e_v2, Dz.e_s2, Dz.e_v3, Dz.e_s3, Dz.e_v4, Dz.e_s4, Dz.e_v5, Dz.e_s5, Dz.e_v6, Dz.e_s6, Dz.e_v7, Dz.e_s7, Dz.e_v8, Dz.e_s8, Dz.e_v9, Dz.e_s9, Dz.e_v10, Dz.e_s10, Dz.e_v11, Dz.e_s11, Dz.e_v12, Dz.e_s12, Dz.e_v13, Dz.e_s13, Dz.e_v14, Dz.e_s14, Dz.e_v15, Dz.e_s15, Dz.e_v16, Dz.e_s16, Dz.e_v17, Dz.e_s17, Dz.e_v18, Dz.e_s18, Dz.e_v19, Dz.e_s19, Dz.e_v20, Dz.e_s20, Dz.e_v21, Dz.e_s21, Dz.e_v22, Dz.e_s22, Dz.e_v23, Dz.e_s23, Dz.e_v24, Dz.e_s24, Dz.e_v25, Dz.e_s25, Dz.e_c, Dz.e_bin, Dz.e_un, Dz.e_test, Dz.e_tru, Dz.e_and, Dz.e_or, Dz.e_not, Dz.e_yes, Dz.e_andV, Dz.e_orV, Dz.e_notV, Dz.e_orT, Dz.e_andT, Dz.e_if, Dz.e_nil, Dz.e_cons, Dz.e_tup, Dz.e_lst, Dz.e_call, Dz.e_fn, Dz.e_chain, Dz.e_noP, Dz.e_part, Dz.e_sl, Dz.e_m1, Dz.e_m0, Dz.e_gv, Dz.e_gt, Dz.e_gc, Dz.e_gn, Dz.e_lc, Dz.e_w0, Dz.e_w1, Dz.e_list, Dz.e_tupI, Dz.e_strI, Dz.tru_bl, Dz.tru_int, Dz.tru_lst, Dz.tru_tup, Dz.tru_str, Dz.len_lst, Dz.len_tup, Dz.len_str, Dz.add_int', Dz.sub_int', Dz.lt_int', Dz.le_int', Dz.gt_int', Dz.ge_int', Dz.eq_int', Dz.ne_int', Dz.eq_str', Dz.ne_str', Dz.asBl_bl, Dz.asStr_str, Dz.asInt_int, Dz.asLst_lst, Dz.asTup_tup, Dz.add_str', Dz.add_lst', Dz.add_tup', Dz.mul_int', Dz.mul_str', Dz.mod_int'', Dz.div_int', Dz.ix_lst', Dz.ix_tup', Dz.ix_str', Dz.sl_lst', Dz.sl_tup', Dz.sl_str', Dz.neg_int', Dz.at0, Dz.at1, Dz.at2, Dz.at3, Dz.at4, Dz.at5, Dz.at6, Dz.at7, Dz.int_int', Dz.int_bl', Dz.tupF_lst, Dz.tupF_tup, Dz.lstF_lst, Dz.lstF_tup, Dz.is_bl', Dz.not_bl', Dz.take_eq, Dz.some_some, Dz.two_eq, List.length_cons, List.length_nil, List.map_cons, List.map_nil, List.append_nil, List.cons_append, List.nil_append, Nat.reduceAdd, Nat.reduceSub, Nat.reduceLeDiff, Nat.zero_add, Int.toNat_natCast, if_true, if_false, Bool.false_eq_true, Bool.not_true, Bool.not_false, true_and, and_true, ite_true, ite_false, Dz.e_fld, Dz.obj_f, Dz.e_meth, Dz.is_obj, Dz.e_make, Dz.e_own1, Dz.e_ownIn, Dz.is_c, Dz.e_star, Dz.sq_lst, Dz.sq_tup, Dz.isL_lst, Dz.e_zip2, Dz.e_enum, Dz.e_sortSet, Dz.own_own, Dz.e_sown, Dz.e_sapp, Dz.e_sput, Dz.e_sins, Dz.e_sext, Dz.e_sfrz, Dz.e_ixo, Dz.e_truo, Dz.slf_slf, Dz.e_sslf, Dz.e_mslf, Dz.e_runI2, Dz.max2, Dz.min2, Dz.e_not, Dz.e_isiT, Dz.isi_lst_lt, Dz.isi_tup_lt, List.getElem?_cons_zero, List.getElem?_cons_succ, isi_non_int, isi_non_bool, isi_non_str, isi_non_tuple, isi_non_list, isi_non_dict, isi_bl_int, isi_bl_bool, isi_bl_str, isi_bl_tuple, isi_bl_list, isi_bl_dict, isi_int_int, isi_int_bool, isi_int_str, isi_int_tuple, isi_int_list, isi_int_dict, isi_str_int, isi_str_bool, isi_str_str, isi_str_tuple, isi_str_list, isi_str_dict, isi_tup_int, isi_tup_bool, isi_tup_str, isi_tup_tuple, isi_tup_list, isi_tup_dict, isi_lst_int, isi_lst_bool, isi_lst_str, isi_lst_tuple, isi_lst_list, isi_lst_dict, isi_dic_int, isi_dic_bool, isi_dic_str, isi_dic_tuple, isi_dic_list, isi_dic_dict]
            refine for_inv (fun rest ρ => ∃ R' : List Int, rest = R'.map D.int ∧ (∀ k ∈ R', 0 ≤ k ∧ k ≤ top) ∧ ∃ x16, St3 c zs z ms x16 ρ) _ _ ⟨kept, rfl, hk, _, _, _, _, _, _, _, _, _, _, _, rfl⟩ (fun ρ hρ => ?_) (fun d4 ds4 ρ N4 hI4 hN4 => ?_)
            · obtain ⟨_, _, _, x16, x0, x2, x4, x7, x8, x9, x11, x13, x15, x17, rfl⟩ := hρ
              exact hN'' _ ⟨R, rfl, fun z hz => hR z (List.mem_cons_of_mem _ hz), _, _, _, _, _, _, _, _, _, _, _, _, _, _, rfl⟩
            · obtain ⟨R', e, hk, x16, x0, x2, x4, x7, x8, x9, x11, x13, x15, x17, rfl⟩ := hI4
              match R', e, hk with
              | k :: R', e, hk =>
                cases e
                have hk0 := hk k List.mem_cons_self
                simp -implicitDefEqProofs only [Dz.e_rng1, Dz.e_rngQ, Dz.e_seq, Dz.e_next, Dz.e_brk, Dz.e_cont, Dz.e_drop, Dz.e_ifS, Dz.e_asg, Dz.e_par, Dz.e_ret, Dz.e_retN, Dz.e_for, Dz.e_run1, Dz.e_run2, Dz.e_run3, Dz.e_run4, Dz.e_run5, Dz.e_run6, Dz.e_run7, Dz.e_run8, Dz.e_rep0, Dz.e_rep1, Dz.e_rep2, Dz.e_rep3, Dz.e_rep4, Dz.e_rep5, Dz.e_rep6, Dz.e_rep7, Dz.e_rep8, Dz.e_rep9, Dz.e_rep10, Dz.e_rep11, Dz.e_rep12, Dz.e_rep13, Dz.e_rep14, Dz.e_rep15, Dz.e_rep16, Dz.e_rep17, Dz.e_rep18, Dz.e_rep19, Dz.e_rep20, Dz.e_rep21, Dz.e_rep22, Dz.e_rep23, Dz.e_rep24, Dz.e_rep25, Dz.e_v0, Dz.e_s0, Dz.e_v1, Dz.e_s1, Dz.e_v2, Dz.e_s2, Dz.e_v3, Dz.e_s3, Dz.e_v4, Dz.e_s4, Dz.e_v5, Dz.e_s5, Dz.e_v6, Dz.e_s6, Dz.e_v7, Dz.e_s7, Dz.e_v8, Dz.e_s8, Dz.e_v9, Dz.e_s9, Dz.e_v10, Dz.e_s10, Dz.e_v11, Dz.e_s11, Dz.e_v12, Dz.e_s12, Dz.e_v13, Dz.e_s13, Dz.e_v14, Dz.e_s14, Dz.e_v15, Dz.e_s15, Dz.e_v16, Dz.e_s16, Dz.e_v17, Dz.e_s17, Dz.e_v18, Dz.e_s18, Dz.e_v19, Dz.e_s19, Dz.e_v20, Dz.e_s20, Dz.e_v21, Dz.e_s21, Dz.e_v22, Dz.e_s22, Dz.e_v23, Dz.e_s23, Dz.e_v24, Dz.e_s24, Dz.e_v25, Dz.e_s25, Dz.e_c, Dz.e_bin, Dz.e_un, Dz.e_test, Dz.e_tru, Dz.e_and, Dz.e_or, Dz.e_not, Dz.e_yes, Dz.e_andV, Dz.e_orV, Dz.e_notV, Dz.e_orT, Dz.e_andT, Dz.e_if, Dz.e_nil, Dz.e_cons, Dz.e_tup, Dz.e_lst, Dz.e_call, Dz.e_fn, Dz.e_chain, Dz.e_noP, Dz.e_part, Dz.e_sl, Dz.e_m1, Dz.e_m0, Dz.e_gv, Dz.e_gt, Dz.e_gc, Dz.e_gn, Dz.e_lc, Dz.e_w0, Dz.e_w1, Dz.e_list, Dz.e_tupI, Dz.e_strI, Dz.tru_bl, Dz.tru_int, Dz.tru_lst, Dz.tru_tup, Dz.tru_str, Dz.len_lst, Dz.len_tup, Dz.len_str, Dz.add_int', Dz.sub_int', Dz.lt_int', Dz.le_int', Dz.gt_int', Dz.ge_int', Dz.eq_int', Dz.ne_int', Dz.eq_str', Dz.ne_str', Dz.asBl_bl, Dz.asStr_str, Dz.asInt_int, Dz.asLst_lst, Dz.asTup_tup, Dz.add_str', Dz.add_lst', Dz.add_tup', Dz.mul_int', Dz.mul_str', Dz.mod_int'', Dz.div_int', Dz.ix_lst', Dz.ix_tup', Dz.ix_str', Dz.sl_lst', Dz.sl_tup', Dz.sl_str', Dz.neg_int', Dz.at0, Dz.at1, Dz.at2, Dz.at3, Dz.at4, Dz.at5, Dz.at6, Dz.at7, Dz.int_int', Dz.int_bl', Dz.tupF_lst, Dz.tupF_tup, Dz.lstF_lst, Dz.lstF_tup, Dz.is_bl', Dz.not_bl', Dz.take_eq, Dz.some_some, Dz.two_eq, List.length_cons, List.length_nil, List.map_cons, List.map_nil, List.append_nil, List.cons_append, List.nil_append, Nat.reduceAdd, Nat.reduceSub, Nat.reduceLeDiff, Nat.zero_add, Int.toNat_natCast, if_true, if_false, Bool.false_eq_true, Bool.not_true, Bool.not_false, true_and, and_true, ite_true, ite_false, Dz.e_fld, Dz.obj_f, Dz.e_meth, Dz.is_obj, Dz.e_make, Dz.e_own1, Dz.e_ownIn, Dz.is_c, Dz.e_star, Dz.sq_lst, Dz.sq_tup, Dz.isL_lst, Dz.e_zip2, Dz.e_enum, Dz.e_sortSet, Dz.own_own, Dz.e_sown, Dz.e_sapp, Dz.e_sput, Dz.e_sins, Dz.e_sext, Dz.e_sfrz, Dz.e_ixo, Dz.e_truo, Dz.slf_slf, Dz.e_sslf, Dz.e_mslf, Dz.e_runI2, Dz.max2, Dz.min2, Dz.e_not, Dz.e_isiT, Dz.isi_lst_lt, Dz.isi_tup_lt, List.getElem?_cons_zero, List.getElem?_cons_succ, isi_non_int, isi_non_bool, isi_non_str, isi_non_tuple, isi_non_list, isi_non_dict, isi_bl_int, isi_bl_bool, isi_bl_str, isi_bl_tuple, isi_bl_list, isi_bl_dict, isi_int_int, isi_int_bool, isi_int_str, isi_int_tuple, isi_int_list, isi_int_dict, isi_str_int, isi_str_bool, isi_str_str, isi_str_tuple, isi_str_list, isi_str_dict, isi_tup_int, isi_tup_bool, isi_tup_str, isi_tup_tuple, isi_tup_list, isi_tup_dict, isi_lst_int, isi_lst_bool, isi_lst_str, isi_lst_tuple, isi_lst_list, isi_lst_dict, isi_dic_int, isi_dic_bool, isi_dic_str, isi_dic_tuple, isi_dic_list, isi_dic_dict]
                refine hasday_spec c z.1 (by have := g.lenS; omega) k _ ?_
                simp -implicitDefEqProofs only [Dz.e_rng1, Dz.e_rngQ, Dz.e_seq, Dz.e_next, Dz.e_brk, Dz.e_cont, Dz.e_drop, Dz.e_ifS, Dz.e_asg, Dz.e_par, Dz.e_ret, Dz.e_retN, Dz.e_for, Dz.e_run1, Dz.e_run2, Dz.e_run3, Dz.e_run4, Dz.e_run5, Dz.e_run6, Dz.e_run7, Dz.e_run8, Dz.e_rep0, Dz.e_rep1, Dz.e_rep2, Dz.e_rep3, Dz.e_rep4, Dz.e_rep5, Dz.e_rep6, Dz.e_rep7, Dz.e_rep8, Dz.e_rep9, Dz.e_rep10, Dz.e_rep11, Dz.e_rep12, Dz.e_rep13, Dz.e_rep14, Dz.e_rep15, Dz.e_rep16, Dz.e_rep17, Dz.e_rep18, Dz.e_rep19, Dz.e_rep20, Dz.e_rep21, Dz.e_rep22, Dz.e_rep23, Dz.e_rep24, Dz.e_rep25, Dz.e_v0, Dz.e_s0, Dz.e_v1, Dz.e_s1, Dz.e_v2, Dz.e_s2, Dz.e_v3, Dz.e_s3, Dz.e_v4, Dz.e_s4, Dz.e_v5, Dz.e_s5, Dz.e_v6, Dz.e_s6, Dz.e_v7, Dz.e_s7, Dz.e_v8, Dz.e_s8, Dz.e_v9, Dz.e_s9, Dz.e_v10, Dz.e_s10, Dz.e_v11, Dz.e_s11, Dz.e_v12, Dz.e_s12, Dz.e_v13, Dz.e_s13, Dz.e_v14, Dz.e_s14, Dz.e_v15, Dz.e_s15, Dz.e_v16, Dz.e_s16, Dz.e_v17, Dz.e_s17, Dz.e_v18, Dz.e_s18, Dz.e_v19, Dz.e_s19, Dz.e_v20, Dz.e_s20, Dz.e_v21, Dz.e_s21, Dz.e_v22, Dz.e_s22, Dz.e_v23, Dz.e_s23, Dz.e_v24, Dz.e_s24, Dz.e_v25, Dz.e_s25, Dz.e_c, Dz.e_bin, Dz.e_un, Dz.e_test, Dz.e_tru, Dz.e_and, Dz.e_or, Dz.e_not, Dz.e_yes, Dz.e_andV, Dz.e_orV, Dz.e_notV, Dz.e_orT, Dz.e_andT, Dz.e_if, Dz.e_nil, Dz.e_cons, Dz.e_tup, Dz.e_lst, Dz.e_call, Dz.e_fn, Dz.e_chain, Dz.e_noP, Dz.e_part, Dz.e_sl, Dz.e_m1, Dz.e_m0, Dz.e_gv, Dz.e_gt, Dz.e_gc, Dz.e_gn, Dz.e_lc, Dz.e_w0, Dz.e_w1, Dz.e_list, Dz.e_tupI, Dz.e_strI, Dz.tru_bl, Dz.tru_int, Dz.tru_lst, Dz.tru_tup, Dz.tru_str, Dz.len_lst, Dz.len_tup, Dz.len_str, Dz.add_int', Dz.sub_int', Dz.lt_int', Dz.le_int', Dz.gt_int', Dz.ge_int', Dz.eq_int', Dz.ne_int', Dz.eq_str', Dz.ne_str', Dz.asBl_bl, Dz.asStr_str, Dz.asInt_int, Dz.asLst_lst, Dz.asTup_tup, Dz.add_str', Dz.add_lst', Dz.add_tup', Dz.mul_int', Dz.mul_str', Dz.mod_int'', Dz.div_int', Dz.ix_lst', Dz.ix_tup', Dz.ix_str', Dz.sl_lst', Dz.sl_tup', Dz.sl_str', Dz.neg_int', Dz.at0, Dz.at1, Dz.at2, Dz.at3, Dz.at4, Dz.at5, Dz.at6, Dz.at7, Dz.int_int', Dz.int_bl', Dz.tupF_lst, Dz.tupF_tup, Dz.lstF_lst, Dz.lstF_tup, Dz.is_bl', Dz.not_bl', Dz.take_eq, Dz.some_some, Dz.two_eq, List.length_cons, List.length_nil, List.map_cons, List.map_nil, List.append_nil, List.cons_append, List.nil_append, Nat.reduceAdd, Nat.reduceSub, Nat.reduceLeDiff, Nat.zero_add, Int.toNat_natCast, if_true, if_false, Bool.false_eq_true, Bool.not_true, Bool.not_false, true_and, and_true, ite_true, ite_false, Dz.e_fld, Dz.obj_f, Dz.e_meth, Dz.is_obj, Dz.e_make, Dz.e_own1, Dz.e_ownIn, Dz.is_c, Dz.e_star, Dz.sq_lst, Dz.sq_tup, Dz.isL_lst, Dz.e_zip2, Dz.e_enum, Dz.e_sortSet, Dz.own_own, Dz.e_sown, Dz.e_sapp, Dz.e_sput, Dz.e_sins, Dz.e_sext, Dz.e_sfrz, Dz.e_ixo, Dz.e_truo, Dz.slf_slf, Dz.e_sslf, Dz.e_mslf, Dz.e_runI2, Dz.max2, Dz.min2, Dz.e_not, Dz.e_isiT, Dz.isi_lst_lt, Dz.isi_tup_lt, List.getElem?_cons_zero, List.getElem?_cons_succ, isi_non_int, isi_non_bool, isi_non_str, isi_non_tuple, isi_non_list, isi_non_dict, isi_bl_int, isi_bl_bool, isi_bl_str, isi_bl_tuple, isi_bl_list, isi_bl_dict, isi_int_int, isi_int_bool, isi_int_str, isi_int_tuple, isi_int_list, isi_int_dict, isi_str_int, isi_str_bool, isi_str_str, isi_str_tuple, isi_str_list, isi_str_dict, isi_tup_int, isi_tup_bool, isi_tup_str, isi_tup_tuple, isi_tup_list, isi_tup_dict, isi_lst_int, isi_lst_bool, isi_lst_str, isi_lst_tuple, isi_lst_list, isi_lst_dict, isi_dic_int, isi_dic_bool, isi_dic_str, isi_dic_tuple, isi_dic_list, isi_dic_dict]
                refine later_spec c z.1 (by have := g.lenS; omega) ms m2 (by omega) k _ _ fun r1 f1 => ?_
                refine later_spec c z.1 (by have := g.lenS; omega) ms m2 (by omega) k _ _ fun r2 f2 => ⟨by decide, ?_⟩
                rw [isO_beyond]
                refine bey_spec c z.2 k _ ?_
                rw [isO_turn]
                refine turn_spec c z.2 g.can g.inF (by have := g.lenF; omega) k hk0.1 _ fun r3 f3 => ⟨by decide, ?_⟩
                rw [g.two f3 f2, g.one f1]
                refine rep2 _ _ (oin_of (by omega) f1) (oin_of (by omega) f2) _ ?_
                refine rep2 _ _ (oin_of (by omega) f1) (oin_of (by omega) f2) _ ?_
                rw [ne_same]
                simp -implicitDefEqProofs only [Dz.e_rng1, Dz.e_rngQ, Dz.e_seq, Dz.e_next, Dz.e_brk, Dz.e_cont, Dz.e_drop, Dz.e_ifS, Dz.e_asg, Dz.e_par, Dz.e_ret, Dz.e_retN, Dz.e_for, Dz.e_run1, Dz.e_run2, Dz.e_run3, Dz.e_run4, Dz.e_run5, Dz.e_run6, Dz.e_run7, Dz.e_run8, Dz.e_rep0, Dz.e_rep1, Dz.e_rep2, Dz.e_rep3, Dz.e_rep4, Dz.e_rep5, Dz.e_rep6, Dz.e_rep7, Dz.e_rep8, Dz.e_rep9, Dz.e_rep10, Dz.e_rep11, Dz.e_rep12, Dz.e_rep13, Dz.e_rep14, Dz.e_rep15, Dz.e_rep16, Dz.e_rep17, Dz.e_rep18, Dz.e_rep19, Dz.e_rep20, Dz.e_rep21, Dz.e_rep22, Dz.e_rep23, Dz.e_rep24, Dz.e_rep25, Dz.e_v0, Dz.e_s0, Dz.e_v1, Dz.e_s1, Dz.e_v2, Dz.e_s2, Dz.e_v3, Dz.e_s3, Dz.e_v4, Dz.e_s4, Dz.e_v5, Dz.e_s5, Dz.e_v6, Dz.e_s6, Dz.e_v7, Dz.e_s7, Dz.e_v8, Dz.e_s8, Dz.e_v9, Dz.e_s9, Dz.e_v10, Dz.e_s10, Dz.e_v11, Dz.e_s11, Dz.e_v12, Dz.e_s12, Dz.e_v13, Dz.e_s13, Dz.e_v14, Dz.e_s14, Dz.e_v15, Dz.e_s15, Dz.e_v16, Dz.e_s16, Dz.e_v17, Dz.e_s17, Dz.e_v18, Dz.e_s18, Dz.e_v19, Dz.e_s19, Dz.e_v20, Dz.e_s20, Dz.e_v21, Dz.e_s21, Dz.e_v22, Dz.e_s22, Dz.e_v23, Dz.e_s23, Dz.e_v24, Dz.e_s24, Dz.e_v25, Dz.e_s25, Dz.e_c, Dz.e_bin, Dz.e_un, Dz.e_test, Dz.e_tru, Dz.e_and, Dz.e_or, Dz.e_not, Dz.e_yes, Dz.e_andV, Dz.e_orV, Dz.e_notV, Dz.e_orT, Dz.e_andT, Dz.e_if, Dz.e_nil, Dz.e_cons, Dz.e_tup, Dz.e_lst, Dz.e_call, Dz.e_fn, Dz.e_chain, Dz.e_noP, Dz.e_part, Dz.e_sl, Dz.e_m1, Dz.e_m0, Dz.e_gv, Dz.e_gt, Dz.e_gc, Dz.e_gn, Dz.e_lc, Dz.e_w0, Dz.e_w1, Dz.e_list, Dz.e_tupI, Dz.e_strI, Dz.tru_bl, Dz.tru_int, Dz.tru_lst, Dz.tru_tup, Dz.tru_str, Dz.len_lst, Dz.len_tup, Dz.len_str, Dz.add_int', Dz.sub_int', Dz.lt_int', Dz.le_int', Dz.gt_int', Dz.ge_int', Dz.eq_int', Dz.ne_int', Dz.eq_str', Dz.ne_str', Dz.asBl_bl, Dz.asStr_str, Dz.asInt_int, Dz.asLst_lst, Dz.asTup_tup, Dz.add_str', Dz.add_lst', Dz.add_tup', Dz.mul_int', Dz.mul_str', Dz.mod_int'', Dz.div_int', Dz.ix_lst', Dz.ix_tup', Dz.ix_str', Dz.sl_lst', Dz.sl_tup', Dz.sl_str', Dz.neg_int', Dz.at0, Dz.at1, Dz.at2, Dz.at3, Dz.at4, Dz.at5, Dz.at6, Dz.at7, Dz.int_int', Dz.int_bl', Dz.tupF_lst, Dz.tupF_tup, Dz.lstF_lst, Dz.lstF_tup, Dz.is_bl', Dz.not_bl', Dz.take_eq, Dz.some_some, Dz.two_eq, List.length_cons, List.length_nil, List.map_cons, List.map_nil, List.append_nil, List.cons_append, List.nil_append, Nat.reduceAdd, Nat.reduceSub, Nat.reduceLeDiff, Nat.zero_add, Int.toNat_natCast, if_true, if_false, Bool.false_eq_true, Bool.not_true, Bool.not_false, true_and, and_true, ite_true, ite_false, Dz.e_fld, Dz.obj_f, Dz.e_meth, Dz.is_obj, Dz.e_make, Dz.e_own1, Dz.e_ownIn, Dz.is_c, Dz.e_star, Dz.sq_lst, Dz.sq_tup, Dz.isL_lst, Dz.e_zip2, Dz.e_enum, Dz.e_sortSet, Dz.own_own, Dz.e_sown, Dz.e_sapp, Dz.e_sput, Dz.e_sins, Dz.e_sext, Dz.e_sfrz, Dz.e_ixo, Dz.e_truo, Dz.slf_slf, Dz.e_sslf, Dz.e_mslf, Dz.e_runI2, Dz.max2, Dz.min2, Dz.e_not, Dz.e_isiT, Dz.isi_lst_lt, Dz.isi_tup_lt, List.getElem?_cons_zero, List.getElem?_cons_succ, isi_non_int, isi_non_bool, isi_non_str, isi_non_tuple, isi_non_list, isi_non_dict, isi_bl_int, isi_bl_bool, isi_bl_str, isi_bl_tuple, isi_bl_list, isi_bl_dict, isi_int_int, isi_int_bool, isi_int_str, isi_int_tuple, isi_int_list, isi_int_dict, isi_str_int, isi_str_bool, isi_str_str, isi_str_tuple, isi_str_list, isi_str_dict, isi_tup_int, isi_tup_bool, isi_tup_str, isi_tup_tuple, isi_tup_list, isi_tup_dict, isi_lst_int, isi_lst_bool, isi_lst_str, isi_lst_tuple, isi_lst_list, isi_lst_dict, isi_dic_int, isi_dic_bool, isi_dic_str, isi_dic_tuple, isi_dic_list, isi_dic_dict]
                exact hN4 _ ⟨R', rfl, fun k hk' => hk k (List.mem_cons_of_mem _ hk'), x16, _, _, _, _, _, _, _, _, _, _, rfl⟩
          · obtain ⟨kept, R', e, hk, hl, x0, x2, x4, x7, x8, x9, x11, x13, x15, x17, rfl⟩ := hI3
            match R', e, hl with
            | k :: R', e, hl =>
              cases e
              simp -implicitDefEqProofs only [Dz.e_rng1, Dz.e_rngQ, Dz.e_seq, Dz.e_next, Dz.e_brk, Dz.e_cont, Dz.e_drop, Dz.e_ifS, Dz.e_asg, Dz.e_par, Dz.e_ret, Dz.e_retN, Dz.e_for, Dz.e_run1, Dz.e_run2, Dz.e_run3, Dz.e_run4, Dz.e_run5, Dz.e_run6, Dz.e_run7, Dz.e_run8, Dz.e_rep0, Dz.e_rep1, Dz.e_rep2, Dz.e_rep3, Dz.e_rep4, Dz.e_rep5, Dz.e_rep6, Dz.e_rep7, Dz.e_rep8, Dz.e_rep9, Dz.e_rep10, Dz.e_rep11, Dz.e_rep12, Dz.e_rep13, Dz.e_rep14, Dz.e_rep15, Dz.e_rep16, Dz.e_rep17, Dz.e_rep18, Dz.e_rep19, Dz.e_rep20, Dz.e_rep21, Dz.e_rep22, Dz.e_rep23, Dz.e_rep24, Dz.e_rep25, Dz.e_v0, Dz.e_s0, Dz.e_v1, Dz.e_s1, Dz.e_v2, Dz.e_s2, Dz.e_v3, Dz.e_s3, Dz.e_v4, Dz.e_s4, Dz.e_v5, Dz.e_s5, Dz.e_v6, Dz.e_s6, Dz.e_v7, Dz.e_s7, Dz.e_v8, Dz.e_s8, Dz.e_v9, Dz.e_s9, Dz.e_v10, Dz.e_s10, Dz.e_v11, Dz.e_s11, Dz.e_v12, Dz.e_s12, Dz.e_v13, Dz.e_s13, Dz.e_v14, Dz.e_s14, Dz.e_v15, Dz.e_s15, Dz.e_v16, Dz.e_s16, Dz.e_v17, Dz.e_s17, Dz.e_v18, Dz.e_s18, Dz.e_v19, Dz.e_s19, Dz.e_v20, Dz.e_s20, Dz.e_v21, Dz.e_s21, Dz.e_v22, Dz.e_s22, Dz.e_v23, Dz.e_s23, Dz.e_v24, Dz.e_s24, Dz.e_v25, Dz.e_s25, Dz.e_c, Dz.e_bin, Dz.e_un, Dz.e_test, Dz.e_tru, Dz.e_and, Dz.e_or, Dz.e_not, Dz.e_yes, Dz.e_andV, Dz.e_orV, Dz.e_notV, Dz.e_orT, Dz.e_andT, Dz.e_if, Dz.e_nil, Dz.e_cons, Dz.e_tup, Dz.e_lst, Dz.e_call, Dz.e_fn, Dz.e_chain, Dz.e_noP, Dz.e_part, Dz.e_sl, Dz.e_m1, Dz.e_m0, Dz.e_gv, Dz.e_gt, Dz.e_gc, Dz.e_gn, Dz.e_lc, Dz.e_w0, Dz.e_w1, Dz.e_list, Dz.e_tupI, Dz.e_strI, Dz.tru_bl, Dz.tru_int, Dz.tru_lst, Dz.tru_tup, Dz.tru_str, Dz.len_lst, Dz.len_tup, Dz.len_str, Dz.add_int', Dz.sub_int', Dz.lt_int', Dz.le_int', Dz.gt_int', Dz.ge_int', Dz.eq_int', Dz.ne_int', Dz.eq_str', Dz.ne_str', Dz.asBl_bl, Dz.asStr_str, Dz.asInt_int, Dz.asLst_lst, Dz.asTup_tup, Dz.add_str', Dz.add_lst', Dz.add_tup', Dz.mul_int', Dz.mul_str', Dz.mod_int'', Dz.div_int', Dz.ix_lst', Dz.ix_tup', Dz.ix_str', Dz.sl_lst', Dz.sl_tup', Dz.sl_str', Dz.neg_int', Dz.at0, Dz.at1, Dz.at2, Dz.at3, Dz.at4, Dz.at5, Dz.at6, Dz.at7, Dz.int_int', Dz.int_bl', Dz.tupF_lst, Dz.tupF_tup, Dz.lstF_lst, Dz.lstF_tup, Dz.is_bl', Dz.not_bl', Dz.take_eq, Dz.some_some, Dz.two_eq, List.length_cons, List.length_nil, List.map_cons, List.map_nil, List.append_nil, List.cons_append, List.nil_append, Nat.reduceAdd, Nat.reduceSub, Nat.reduceLeDiff, Nat.zero_add, Int.toNat_natCast, if_true, if_false, Bool.false_eq_true, Bool.not_true, Bool.not_false, true_and, and_true, ite_true, ite_false, Dz.e_fld, Dz.obj_f, Dz.e_meth, Dz.is_obj, Dz.e_make, Dz.e_own1, Dz.e_ownIn, Dz.is_c, Dz.e_star, Dz.sq_lst, Dz.sq_tup, Dz.isL_lst, Dz.e_zip2, Dz.e_enum, Dz.e_sortSet, Dz.own_own, Dz.e_sown, Dz.e_sapp, Dz.e_sput, Dz.e_sins, Dz.e_sext, Dz.e_sfrz, Dz.e_ixo, Dz.e_truo, Dz.slf_slf, Dz.e_sslf, Dz.e_mslf, Dz.e_runI2, Dz.max2, Dz.min2, Dz.e_not, Dz.e_isiT, Dz.isi_lst_lt, Dz.isi_tup_lt, List.getElem?_cons_zero, List.getElem?_cons_succ, isi_non_int, isi_non_bool, isi_non_str, isi_non_tuple, isi_non_list, isi_non_dict, isi_bl_int, isi_bl_bool, isi_bl_str, isi_bl_tuple, isi_bl_list, isi_bl_dict, isi_int_int, isi_int_bool, isi_int_str, isi_int_tuple, isi_int_list, isi_int_dict, isi_str_int, isi_str_bool, isi_str_str, isi_str_tuple, isi_str_list, isi_str_dict, isi_tup_int, isi_tup_bool, isi_tup_str, isi_tup_tuple, isi_tup_list, isi_tup_dict, isi_lst_int, isi_lst_bool, isi_lst_str, isi_lst_tuple, isi_lst_list, isi_lst_dict, isi_dic_int, isi_dic_bool, isi_dic_str, isi_dic_tuple, isi_dic_list, isi_dic_dict, pow9]
              refine ⟨by decide, by decide, ?_⟩
              refine comp_filterL D.int D.int (fun x => decide (0 ≤ x) && decide (x ≤ top)) [k - 1, k, k + 1] _ (fun a _ Q q => ?_) (fun a _ _ Q q => ?_) ?_
              · simp -implicitDefEqProofs only [Dz.e_rng1, Dz.e_rngQ, Dz.e_seq, Dz.e_next, Dz.e_brk, Dz.e_cont, Dz.e_drop, Dz.e_ifS, Dz.e_asg, Dz.e_par, Dz.e_ret, Dz.e_retN, Dz.e_for, Dz.e_run1, Dz.e_run2, Dz.e_run3, Dz.e_run4, Dz.e_run5, Dz.e_run6, Dz.e_run7, Dz.e_run8, Dz.e_rep0, Dz.e_rep1, Dz.e_rep2, Dz.e_rep3, Dz.e_rep4, Dz.e_rep5, Dz.e_rep6, Dz.e_rep7, Dz.e_rep8, Dz.e_rep9, Dz.e_rep10, Dz.e_rep11, Dz.e_rep12, Dz.e_rep13, Dz.e_rep14, Dz.e_rep15, Dz.e_rep16, Dz.e_rep17, Dz.e_rep18, Dz.e_rep19, Dz.e_rep20, Dz.e_rep21, Dz.e_rep22, Dz.e_rep23, Dz.e_rep24, Dz.e_rep25, Dz.e_v0, Dz.e_s0, Dz.e_v1, Dz.e_s1, Dz.e_v2, Dz.e_s2, Dz.e_v3, Dz.e_s3, Dz.e_v4, Dz.e_s4, Dz.e_v5, Dz.e_s5, Dz.e_v6, Dz.e_s6, Dz.e_v7, Dz.e_s7, Dz.e_v8, Dz.e_s8, Dz.e_v9, Dz.e_s9, Dz.e_v10, Dz.e_s10, Dz.e_v11, Dz.e_s11, Dz.e_v12, Dz.e_s12, Dz.e_v13, Dz.e_s13, Dz.e_v14, Dz.e_s14, Dz.e_v15, Dz.e_s15, Dz.e_v16, Dz.e_s16, Dz.e_v17, Dz.e_s17, Dz.e_v18, Dz.e_s18, Dz.e_v19, Dz.e_s19, Dz.e_v20, Dz.e_s20, Dz.e_v21, Dz.e_s21, Dz.e_v22, Dz.e_s22, Dz.e_v23, Dz.e_s23, Dz.e_v24, Dz.e_s24, Dz.e_v25, Dz.e_s25, Dz.e_c, Dz.e_bin, Dz.e_un, Dz.e_test, Dz.e_tru, Dz.e_and, Dz.e_or, Dz.e_not, Dz.e_yes, Dz.e_andV, Dz.e_orV, Dz.e_notV, Dz.e_orT, Dz.e_andT, Dz.e_if, Dz.e_nil, Dz.e_cons, Dz.e_tup, Dz.e_lst, Dz.e_call, Dz.e_fn, Dz.e_chain, Dz.e_noP, Dz.e_part, Dz.e_sl, Dz.e_m1, Dz.e_m0, Dz.e_gv, Dz.e_gt, Dz.e_gc, Dz.e_gn, Dz.e_lc, Dz.e_w0, Dz.e_w1, Dz.e_list, Dz.e_tupI, Dz.e_strI, Dz.tru_bl, Dz.tru_int, Dz.tru_lst, Dz.tru_tup, Dz.tru_str, Dz.len_lst, Dz.len_tup, Dz.len_str, Dz.add_int', Dz.sub_int', Dz.lt_int', Dz.le_int', Dz.gt_int', Dz.ge_int', Dz.eq_int', Dz.ne_int', Dz.eq_str', Dz.ne_str', Dz.asBl_bl, Dz.asStr_str, Dz.asInt_int, Dz.asLst_lst, Dz.asTup_tup, Dz.add_str', Dz.add_lst', Dz.add_tup', Dz.mul_int', Dz.mul_str', Dz.mod_int'', Dz.div_int', Dz.ix_lst', Dz.ix_tup', Dz.ix_str', Dz.sl_lst', Dz.sl_tup', Dz.sl_str', Dz.neg_int', Dz.at0, Dz.at1, Dz.at2, Dz.at3, Dz.at4, Dz.at5, Dz.at6, Dz.at7, Dz.int_int', Dz.int_bl', Dz.tupF_lst, Dz.tupF_tup, Dz.lstF_lst, Dz.lstF_tup, Dz.is_bl', Dz.not_bl', Dz.take_eq, Dz.some_some, Dz.two_eq, List.length_cons, List.length_nil, List.map_cons, List.map_nil, List.append_nil, List.cons_append, List.nil_append, Nat.reduceAdd, Nat.reduceSub, Nat.reduceLeDiff, Nat.zero_add, Int.toNat_natCast, if_true, if_false, Bool.false_eq_true, Bool.not_true, Bool.not_false, true_and, and_true, ite_true, ite_false, Dz.e_fld, Dz.obj_f, Dz.e_meth, Dz.is_obj, Dz.e_make, Dz.e_own1, Dz.e_ownIn, Dz.is_c, Dz.e_star, Dz.sq_lst, Dz.sq_tup, Dz.isL_lst, Dz.e_zip2, Dz.e_enum, Dz.e_sortSet, Dz.own_own, Dz.e_sown, Dz.e_sapp, Dz.e_sput, Dz.e_sins, Dz.e_sext, Dz.e_sfrz, Dz.e_ixo, Dz.e_truo, Dz.slf_slf, Dz.e_sslf, Dz.e_mslf, Dz.e_runI2, Dz.max2, Dz.min2, Dz.e_not, Dz.e_isiT, Dz.isi_lst_lt, Dz.isi_tup_lt, List.getElem?_cons_zero, List.getElem?_cons_succ, isi_non_int, isi_non_bool, isi_non_str, isi_non_tuple, isi_non_list, isi_non_dict, isi_bl_int, isi_bl_bool, isi_bl_str, isi_bl_tuple, isi_bl_list, isi_bl_dict, isi_int_int, isi_int_bool, isi_int_str, isi_int_tuple, isi_int_list, isi_int_dict, isi_str_int, isi_str_bool, isi_str_str, isi_str_tuple, isi_str_list, isi_str_dict, isi_tup_int, isi_tup_bool, isi_tup_str, isi_tup_tuple, isi_tup_list, isi_tup_dict, isi_lst_int, isi_lst_bool, isi_lst_str, isi_lst_tuple, isi_lst_list, isi_lst_dict, isi_dic_int, isi_dic_bool, isi_dic_str, isi_dic_tuple, isi_dic_list, isi_dic_dict, pow9]
                split
                · rename_i h
                  rw [h] at q
                  exact q
                · rename_i h
                  have h : decide (0 ≤ a) = false := by simpa using h
                  rw [h] at q
                  exact q
              · simp -implicitDefEqProofs only [Dz.e_rng1, Dz.e_rngQ, Dz.e_seq, Dz.e_next, Dz.e_brk, Dz.e_cont, Dz.e_drop, Dz.e_ifS, Dz.e_asg, Dz.e_par, Dz.e_ret, Dz.e_retN, Dz.e_for, Dz.e_run1, Dz.e_run2, Dz.e_run3, Dz.e_run4, Dz.e_run5, Dz.e_run6, Dz.e_run7, Dz.e_run8, Dz.e_rep0, Dz.e_rep1, Dz.e_rep2, Dz.e_rep3, Dz.e_rep4, Dz.e_rep5, Dz.e_rep6, Dz.e_rep7, Dz.e_rep8, Dz.e_rep9, Dz.e_rep10, Dz.e_rep11, Dz.e_rep12, Dz.e_rep13, Dz.e_rep14, Dz.e_rep15, Dz.e_rep16, Dz.e_rep17, Dz.e_rep18, Dz.e_rep19, Dz.e_rep20, Dz.e_rep21, Dz.e_rep22, Dz.e_rep23, Dz.e_rep24, Dz.e_rep25, Dz.e_v0, Dz.e_s0, Dz.e_v1, Dz.e_s1, Dz.e_v2, Dz.e_s2, Dz.e_v3, Dz.e_s3, Dz.e_v4, Dz.e_s4, Dz.e_v5, Dz.e_s5, Dz.e_v6, Dz.e_s6, Dz.e_v7, Dz.e_s7, Dz.e_v8, Dz.e_s8, Dz.e_v9, Dz.e_s9, Dz.e_v10, Dz.e_s10, Dz.e_v11, Dz.e_s11, Dz.e_v12, Dz.e_s12, Dz.e_v13, Dz.e_s13, Dz.e_v14, Dz.e_s14, Dz.e_v15, Dz.e_s15, Dz.e_v16, Dz.e_s16, Dz.e_v17, Dz.e_s17, Dz.e_v18, Dz.e_s18, Dz.e_v19, Dz.e_s19, Dz.e_v20, Dz.e_s20, Dz.e_v21, Dz.e_s21, Dz.e_v22, Dz.e_s22, Dz.e_v23, Dz.e_s23, Dz.e_v24, Dz.e_s24, Dz.e_v25, Dz.e_s25, Dz.e_c, Dz.e_bin, Dz.e_un, Dz.e_test, Dz.e_tru, Dz.e_and, Dz.e_or, Dz.e_not, Dz.e_yes, Dz.e_andV, Dz.e_orV, Dz.e_notV, Dz.e_orT, Dz.e_andT, Dz.e_if, Dz.e_nil, Dz.e_cons, Dz.e_tup, Dz.e_lst, Dz.e_call, Dz.e_fn, Dz.e_chain, Dz.e_noP, Dz.e_part, Dz.e_sl, Dz.e_m1, Dz.e_m0, Dz.e_gv, Dz.e_gt, Dz.e_gc, Dz.e_gn, Dz.e_lc, Dz.e_w0, Dz.e_w1, Dz.e_list, Dz.e_tupI, Dz.e_strI, Dz.tru_bl, Dz.tru_int, Dz.tru_lst, Dz.tru_tup, Dz.tru_str, Dz.len_lst, Dz.len_tup, Dz.len_str, Dz.add_int', Dz.sub_int', Dz.lt_int', Dz.le_int', Dz.gt_int', Dz.ge_int', Dz.eq_int', Dz.ne_int', Dz.eq_str', Dz.ne_str', Dz.asBl_bl, Dz.asStr_str, Dz.asInt_int, Dz.asLst_lst, Dz.asTup_tup, Dz.add_str', Dz.add_lst', Dz.add_tup', Dz.mul_int', Dz.mul_str', Dz.mod_int'', Dz.div_int', Dz.ix_lst', Dz.ix_tup', Dz.ix_str', Dz.sl_lst', Dz.sl_tup', Dz.sl_str', Dz.neg_int', Dz.at0, Dz.at1, Dz.at2, Dz.at3, Dz.at4, Dz.at5, Dz.at6, Dz.at7, Dz.int_int', Dz.int_bl', Dz.tupF_lst, Dz.tupF_tup, Dz.lstF_lst, Dz.lstF_tup, Dz.is_bl', Dz.not_bl', Dz.take_eq, Dz.some_some, Dz.two_eq, List.length_cons, List.length_nil, List.map_cons, List.map_nil, List.append_nil, List.cons_append, List.nil_append, Nat.reduceAdd, Nat.reduceSub, Nat.reduceLeDiff, Nat.zero_add, Int.toNat_natCast, if_true, if_false, Bool.false_eq_true, Bool.not_true, Bool.not_false, true_and, and_true, ite_true, ite_false, Dz.e_fld, Dz.obj_f, Dz.e_meth, Dz.is_obj, Dz.e_make, Dz.e_own1, Dz.e_ownIn, Dz.is_c, Dz.e_star, Dz.sq_lst, Dz.sq_tup, Dz.isL_lst, Dz.e_zip2, Dz.e_enum, Dz.e_sortSet, Dz.own_own, Dz.e_sown, Dz.e_sapp, Dz.e_sput, Dz.e_sins, Dz.e_sext, Dz.e_sfrz, Dz.e_ixo, Dz.e_truo, Dz.slf_slf, Dz.e_sslf, Dz.e_mslf, Dz.e_runI2, Dz.max2, Dz.min2, Dz.e_not, Dz.e_isiT, Dz.isi_lst_lt, Dz.isi_tup_lt, List.getElem?_cons_zero, List.getElem?_cons_succ, isi_non_int, isi_non_bool, isi_non_str, isi_non_tuple, isi_non_list, isi_non_dict, isi_bl_int, isi_bl_bool, isi_bl_str, isi_bl_tuple, isi_bl_list, isi_bl_dict, isi_int_int, isi_int_bool, isi_int_str, isi_int_tuple, isi_int_list, isi_int_dict, isi_str_int, isi_str_bool, isi_str_str, isi_str_tuple, isi_str_list, isi_str_dict, isi_tup_int, isi_tup_bool, isi_tup_str, isi_tup_tuple, isi_tup_list, isi_tup_dict, isi_lst_int, isi_lst_bool, isi_lst_str, isi_lst_tuple, isi_lst_list, isi_lst_dict, isi_dic_int, isi_dic_bool, isi_dic_str, isi_dic_tuple, isi_dic_list, isi_dic_dict]
                exact q
              have el := List.length_filter_le (fun x => decide (0 ≤ x) && decide (x ≤ top)) [k - 1, k, k + 1]
              simp only [List.length_cons, List.length_nil] at el hl
              refine ⟨by rw [List.length_map, List.length_map]; exact size_le (by omega), ?_⟩
              refine hN3 _ ⟨kept ++ [k - 1, k, k + 1].filter fun x => decide (0 ≤ x) && decide (x ≤ top), R', rfl, fun x hx => ?_, by rw [List.length_append]; omega, x0, x2, x4, x7, x8, x9, x11, x13, x15, .val (.int k), ?_⟩
              · rcases List.mem_append.mp hx with hx | hx
                · exact hk x hx
                · have := (List.mem_filter.mp hx).2
                  simpa using this
              · rw [List.map_append]
end K23

namespace K23
open PySem PySem.Spec PyProof.Rows L2 Dz
theorem bind1 {K : PySem.W.Frag} {fd : FuncData} {ps : List Str} {T : Addr} {o : Obj} {its : Array Value} {n : Nat} (lT : K.lookup T = some o) (oT : o.data = .seq its n)
    (h : ∀ us : List Value, us.length = ps.length → ∃ k, bindArgs fd ⟨us, []⟩ = seqItems? (.ref T) >>= k ∧ k (some its) = pure (ps.zip us)) : Binds K fd ps [] := fun s us X hl => by
  rw [List.append_nil] at hl ⊢
  obtain ⟨k, e1, e2⟩ := h us hl
  refine L2.BindsTo.of_looks fun M => ?_
  rw [e1]
  exact looks_items X lT oT (.of_pure e2)
theorem law_all {P : Program} {w : World} {K : PySem.W.Frag} {mg : Str → Option Value} {base : Heap} (T : Txt K mg) : FnG P w K mg base CX0 9 T.f_law T.d_law ["_law_script"] (spLaw K) := by
  have G_check := ok_check (P := P) (w := w) (base := base) T 
  have G_is_integer := ok_is_integer (P := P) (w := w) (base := base) T 
  have G__fewest := ok__fewest (P := P) (w := w) (base := base) T 
  have G__law_has_day := ok__law_has_day (P := P) (w := w) (base := base) T 
  have G__law_points := ok__law_points (P := P) (w := w) (base := base) T 
  have G_Days_spans := ok_Days_spans (P := P) (w := w) (base := base) T 
  have G_Days_earliest := ok_Days_earliest (P := P) (w := w) (base := base) T 
  have G_Days_beyond := ok_Days_beyond (P := P) (w := w) (base := base) T 
  have G_Days___contains__ := ok_Days___contains__ (P := P) (w := w) (base := base) T 
  have G_is_day := ok_is_day (P := P) (w := w) (base := base) T G_is_integer
  have G__law_later := ok__law_later (P := P) (w := w) (base := base) T G__law_has_day
  have G_Days___repr__ := ok_Days___repr__ (P := P) (w := w) (base := base) T G_Days_spans
  have G__is_span := ok__is_span (P := P) (w := w) (base := base) T G_is_day
  have G__are_spans := ok__are_spans (P := P) (w := w) (base := base) T G__is_span
  have G_Days___init__ := ok_Days___init__ (P := P) (w := w) (base := base) T G_check G__fewest G__are_spans
  have G_Days___invert__ := ok_Days___invert__ (P := P) (w := w) (base := base) T G_Days___init__
  have G_Days_turn := ok_Days_turn (P := P) (w := w) (base := base) T G_Days_beyond G_Days___contains__ G_Days___invert__
  have G__law_bag := ok__law_bag (P := P) (w := w) (base := base) T 
  have G__law_take := ok__law_take (P := P) (w := w) (base := base) T 
  have G__law_mixed := ok__law_mixed (P := P) (w := w) (base := base) T G__law_take
  have G__law_drawn_spans := ok__law_drawn_spans (P := P) (w := w) (base := base) T G__law_take
  exact ok_law T G__law_bag G_Days___repr__ G_Days___init__ G__law_take G__law_has_day G__law_points G__law_later G__law_drawn_spans G__law_mixed G_Days_turn G_Days_beyond G_Days_earliest (law_spec T.cs)

theorem all_mk {P : Program} {w : World} {K : PySem.W.Frag} {h : Heap} {mg : Str → Option Value} {fa : Addr} (X : K.In h) (G : h.Ns mainGlobals mg) (hfa : mg "law" = some (.ref fa))
    {f1 f2 f3 f4 f5 f6 f7 f8 f9 f10 f11 f12 f13 f14 f15 tD15 f16 f17 f18 f19 f20 f21 f22 CDays : Addr} {od1 an1 od2 an2 od3 an3 od4 an4 od5 an5 od6 an6 od7 an7 od8 an8 od9 an9 od10 an10 od11 an11 od12 an12 od13 an13 od14 an14 od15 odD15 an15 od16 an16 od17 an17 od18 an18 od19 an19 od20 an20 od21 an21 od22 an22 : Option Addr} {sl1 sl2 sl3 sl4 sl5 sl6 sl7 sl8 sl9 sl10 sl11 sl12 sl13 sl14 sl15 slD15 sl16 sl17 sl18 sl19 sl20 sl21 sl22 : Array (Option Value)} {oc1 kV1 dc1 pm1 cd1 ct1 oc2 kV2 dc2 pm2 cd2 ct2 oc3 kV3 dc3 pm3 cd3 ct3 oc4 kV4 dc4 pm4 cd4 ct4 oc5 kV5 dc5 pm5 cd5 ct5 oc6 kV6 dc6 pm6 cd6 ct6 oc7 kV7 dc7 pm7 cd7 ct7 oc8 kV8 dc8 pm8 cd8 ct8 oc9 kV9 dc9 pm9 cd9 ct9 oc10 kV10 dc10 pm10 cd10 ct10 oc11 kV11 dc11 pm11 cd11 ct11 oc12 kV12 dc12 pm12 cd12 ct12 oc13 kV13 dc13 pm13 cd13 ct13 oc14 kV14 dc14 pm14 cd14 ct14 oc15 ocD15 vD15 kV15 dc15 pm15 cd15 ct15 oc16 kV16 dc16 pm16 cd16 ct16 oc17 kV17 dc17 pm17 cd17 ct17 oc18 kV18 dc18 pm18 cd18 ct18 oc19 kV19 dc19 pm19 cd19 ct19 oc20 kV20 dc20 pm20 cd20 ct20 oc21 kV21 dc21 pm21 cd21 ct21 oc22 kV22 dc22 pm22 cd22 ct22 : Value} {nD15 : Nat}
    (aCDays : PySem.W.nsIn K mainGlobals "Days" = some (some (.ref CDays)))
    (a1 : PySem.W.nsIn K mainGlobals "check" = some (some (.ref f1))) (l1 : K.lookup f1 = some ⟨oc1, od1, .func (PySem.W.fnOf "check" "check" (defArgs s_check) (defBody s_check) (defScope s_check) .none kV1 dc1 pm1 an1 cd1 ct1), sl1⟩) (c1 : PySem.W.codeIn K cd1 "check" = true) (k1 : PySem.W.keepIn K (.ref f1) = true)
    (a2 : PySem.W.nsIn K mainGlobals "is_integer" = some (some (.ref f2))) (l2 : K.lookup f2 = some ⟨oc2, od2, .func (PySem.W.fnOf "is_integer" "is_integer" (defArgs s_is_integer) (defBody s_is_integer) (defScope s_is_integer) .none kV2 dc2 pm2 an2 cd2 ct2), sl2⟩) (c2 : PySem.W.codeIn K cd2 "is_integer" = true) (k2 : PySem.W.keepIn K (.ref f2) = true)
    (a3 : PySem.W.nsIn K mainGlobals "is_day" = some (some (.ref f3))) (l3 : K.lookup f3 = some ⟨oc3, od3, .func (PySem.W.fnOf "is_day" "is_day" (defArgs s_is_day) (defBody s_is_day) (defScope s_is_day) .none kV3 dc3 pm3 an3 cd3 ct3), sl3⟩) (c3 : PySem.W.codeIn K cd3 "is_day" = true) (k3 : PySem.W.keepIn K (.ref f3) = true)
    (a4 : PySem.W.nsIn K mainGlobals "_are_spans" = some (some (.ref f4))) (l4 : K.lookup f4 = some ⟨oc4, od4, .func (PySem.W.fnOf "_are_spans" "_are_spans" (defArgs s__are_spans) (defBody s__are_spans) (defScope s__are_spans) .none kV4 dc4 pm4 an4 cd4 ct4), sl4⟩) (c4 : PySem.W.codeIn K cd4 "_are_spans" = true) (k4 : PySem.W.keepIn K (.ref f4) = true)
    (a5 : PySem.W.nsIn K mainGlobals "_is_span" = some (some (.ref f5))) (l5 : K.lookup f5 = some ⟨oc5, od5, .func (PySem.W.fnOf "_is_span" "_is_span" (defArgs s__is_span) (defBody s__is_span) (defScope s__is_span) .none kV5 dc5 pm5 an5 cd5 ct5), sl5⟩) (c5 : PySem.W.codeIn K cd5 "_is_span" = true) (k5 : PySem.W.keepIn K (.ref f5) = true)
    (a6 : PySem.W.nsIn K mainGlobals "_fewest" = some (some (.ref f6))) (l6 : K.lookup f6 = some ⟨oc6, od6, .func (PySem.W.fnOf "_fewest" "_fewest" (defArgs s__fewest) (defBody s__fewest) (defScope s__fewest) .none kV6 dc6 pm6 an6 cd6 ct6), sl6⟩) (c6 : PySem.W.codeIn K cd6 "_fewest" = true) (k6 : PySem.W.keepIn K (.ref f6) = true)
    (a7 : PySem.W.nsIn K mainGlobals "_law_bag" = some (some (.ref f7))) (l7 : K.lookup f7 = some ⟨oc7, od7, .func (PySem.W.fnOf "_law_bag" "_law_bag" (defArgs s__law_bag) (defBody s__law_bag) (defScope s__law_bag) .none kV7 dc7 pm7 an7 cd7 ct7), sl7⟩) (c7 : PySem.W.codeIn K cd7 "_law_bag" = true) (k7 : PySem.W.keepIn K (.ref f7) = true)
    (a8 : PySem.W.nsIn K mainGlobals "_law_take" = some (some (.ref f8))) (l8 : K.lookup f8 = some ⟨oc8, od8, .func (PySem.W.fnOf "_law_take" "_law_take" (defArgs s__law_take) (defBody s__law_take) (defScope s__law_take) .none kV8 dc8 pm8 an8 cd8 ct8), sl8⟩) (c8 : PySem.W.codeIn K cd8 "_law_take" = true) (k8 : PySem.W.keepIn K (.ref f8) = true)
    (a9 : PySem.W.nsIn K mainGlobals "_law_mixed" = some (some (.ref f9))) (l9 : K.lookup f9 = some ⟨oc9, od9, .func (PySem.W.fnOf "_law_mixed" "_law_mixed" (defArgs s__law_mixed) (defBody s__law_mixed) (defScope s__law_mixed) .none kV9 dc9 pm9 an9 cd9 ct9), sl9⟩) (c9 : PySem.W.codeIn K cd9 "_law_mixed" = true) (k9 : PySem.W.keepIn K (.ref f9) = true)
    (a10 : PySem.W.nsIn K mainGlobals "_law_drawn_spans" = some (some (.ref f10))) (l10 : K.lookup f10 = some ⟨oc10, od10, .func (PySem.W.fnOf "_law_drawn_spans" "_law_drawn_spans" (defArgs s__law_drawn_spans) (defBody s__law_drawn_spans) (defScope s__law_drawn_spans) .none kV10 dc10 pm10 an10 cd10 ct10), sl10⟩) (c10 : PySem.W.codeIn K cd10 "_law_drawn_spans" = true) (k10 : PySem.W.keepIn K (.ref f10) = true)
    (a11 : PySem.W.nsIn K mainGlobals "_law_has_day" = some (some (.ref f11))) (l11 : K.lookup f11 = some ⟨oc11, od11, .func (PySem.W.fnOf "_law_has_day" "_law_has_day" (defArgs s__law_has_day) (defBody s__law_has_day) (defScope s__law_has_day) .none kV11 dc11 pm11 an11 cd11 ct11), sl11⟩) (c11 : PySem.W.codeIn K cd11 "_law_has_day" = true) (k11 : PySem.W.keepIn K (.ref f11) = true)
    (a12 : PySem.W.nsIn K mainGlobals "_law_points" = some (some (.ref f12))) (l12 : K.lookup f12 = some ⟨oc12, od12, .func (PySem.W.fnOf "_law_points" "_law_points" (defArgs s__law_points) (defBody s__law_points) (defScope s__law_points) .none kV12 dc12 pm12 an12 cd12 ct12), sl12⟩) (c12 : PySem.W.codeIn K cd12 "_law_points" = true) (k12 : PySem.W.keepIn K (.ref f12) = true)
    (a13 : PySem.W.nsIn K mainGlobals "_law_later" = some (some (.ref f13))) (l13 : K.lookup f13 = some ⟨oc13, od13, .func (PySem.W.fnOf "_law_later" "_law_later" (defArgs s__law_later) (defBody s__law_later) (defScope s__law_later) .none kV13 dc13 pm13 an13 cd13 ct13), sl13⟩) (c13 : PySem.W.codeIn K cd13 "_law_later" = true) (k13 : PySem.W.keepIn K (.ref f13) = true)
    (a14 : PySem.W.nsIn K mainGlobals "law" = some (some (.ref f14))) (l14 : K.lookup f14 = some ⟨oc14, od14, .func (PySem.W.fnOf "law" "law" (defArgs s_law) (defBody s_law) (defScope s_law) .none kV14 dc14 pm14 an14 cd14 ct14), sl14⟩) (c14 : PySem.W.codeIn K cd14 "law" = true) (k14 : PySem.W.keepIn K (.ref f14) = true)
    (a15 : PySem.W.findIn K (.ref CDays) "__init__" = some (some (.ref f15))) (i15 : PySem.W.isFn K (.ref f15) = true) (l15 : K.lookup f15 = some ⟨oc15, od15, .func (PySem.W.fnOf "__init__" "Days.__init__" (defArgs s_Days___init__) (defBody s_Days___init__) (defScope s_Days___init__) (.ref tD15) kV15 dc15 pm15 an15 cd15 ct15), sl15⟩) (c15 : PySem.W.codeIn K cd15 "Days.__init__" = true) (k15 : PySem.W.keepIn K (.ref f15) = true)
    (d15 : K.lookup tD15 = some ⟨ocD15, odD15, .seq #[vD15] nD15, slD15⟩)
    (a16 : PySem.W.findIn K (.ref CDays) "spans" = some (some (.ref f16))) (i16 : PySem.W.isFn K (.ref f16) = true) (l16 : K.lookup f16 = some ⟨oc16, od16, .func (PySem.W.fnOf "spans" "Days.spans" (defArgs s_Days_spans) (defBody s_Days_spans) (defScope s_Days_spans) .none kV16 dc16 pm16 an16 cd16 ct16), sl16⟩) (c16 : PySem.W.codeIn K cd16 "Days.spans" = true) (k16 : PySem.W.keepIn K (.ref f16) = true)
    (a17 : PySem.W.findIn K (.ref CDays) "earliest" = some (some (.ref f17))) (i17 : PySem.W.isFn K (.ref f17) = true) (l17 : K.lookup f17 = some ⟨oc17, od17, .func (PySem.W.fnOf "earliest" "Days.earliest" (defArgs s_Days_earliest) (defBody s_Days_earliest) (defScope s_Days_earliest) .none kV17 dc17 pm17 an17 cd17 ct17), sl17⟩) (c17 : PySem.W.codeIn K cd17 "Days.earliest" = true) (k17 : PySem.W.keepIn K (.ref f17) = true)
    (a18 : PySem.W.findIn K (.ref CDays) "beyond" = some (some (.ref f18))) (i18 : PySem.W.isFn K (.ref f18) = true) (l18 : K.lookup f18 = some ⟨oc18, od18, .func (PySem.W.fnOf "beyond" "Days.beyond" (defArgs s_Days_beyond) (defBody s_Days_beyond) (defScope s_Days_beyond) .none kV18 dc18 pm18 an18 cd18 ct18), sl18⟩) (c18 : PySem.W.codeIn K cd18 "Days.beyond" = true) (k18 : PySem.W.keepIn K (.ref f18) = true)
    (a19 : PySem.W.findIn K (.ref CDays) "turn" = some (some (.ref f19))) (i19 : PySem.W.isFn K (.ref f19) = true) (l19 : K.lookup f19 = some ⟨oc19, od19, .func (PySem.W.fnOf "turn" "Days.turn" (defArgs s_Days_turn) (defBody s_Days_turn) (defScope s_Days_turn) .none kV19 dc19 pm19 an19 cd19 ct19), sl19⟩) (c19 : PySem.W.codeIn K cd19 "Days.turn" = true) (k19 : PySem.W.keepIn K (.ref f19) = true)
    (a20 : PySem.W.findIn K (.ref CDays) "__invert__" = some (some (.ref f20))) (i20 : PySem.W.isFn K (.ref f20) = true) (l20 : K.lookup f20 = some ⟨oc20, od20, .func (PySem.W.fnOf "__invert__" "Days.__invert__" (defArgs s_Days___invert__) (defBody s_Days___invert__) (defScope s_Days___invert__) .none kV20 dc20 pm20 an20 cd20 ct20), sl20⟩) (c20 : PySem.W.codeIn K cd20 "Days.__invert__" = true) (k20 : PySem.W.keepIn K (.ref f20) = true)
    (a21 : PySem.W.findIn K (.ref CDays) "__contains__" = some (some (.ref f21))) (i21 : PySem.W.isFn K (.ref f21) = true) (l21 : K.lookup f21 = some ⟨oc21, od21, .func (PySem.W.fnOf "__contains__" "Days.__contains__" (defArgs s_Days___contains__) (defBody s_Days___contains__) (defScope s_Days___contains__) .none kV21 dc21 pm21 an21 cd21 ct21), sl21⟩) (c21 : PySem.W.codeIn K cd21 "Days.__contains__" = true) (k21 : PySem.W.keepIn K (.ref f21) = true)
    (a22 : PySem.W.findIn K (.ref CDays) "__repr__" = some (some (.ref f22))) (i22 : PySem.W.isFn K (.ref f22) = true) (l22 : K.lookup f22 = some ⟨oc22, od22, .func (PySem.W.fnOf "__repr__" "Days.__repr__" (defArgs s_Days___repr__) (defBody s_Days___repr__) (defScope s_Days___repr__) .none kV22 dc22 pm22 an22 cd22 ct22), sl22⟩) (c22 : PySem.W.codeIn K cd22 "Days.__repr__" = true) (k22 : PySem.W.keepIn K (.ref f22) = true)
    (pgDays : PySem.W.plainGet K CDays Str.empty = true) (hdDays : PySem.W.hasDictIn K CDays = true) (poDays : PySem.W.plainOver K CDays = true) (saDays : PySem.W.findIn K (.ref CDays) "__setattr__" = some (some (.builtin "object.__setattr__"))) (mkDays : PySem.W.makesIn K CDays = true) (kcDays : PySem.W.keepIn K (.ref CDays) = true)
    (nDays_spans : PySem.W.findIn K (.ref CDays) "_spans" = some none)
    (z0 : PySem.W.nsIn K mainGlobals "abs" = some none)
    (z1 : PySem.W.nsIn K mainGlobals "all" = some none)
    (z2 : PySem.W.nsIn K mainGlobals "any" = some none)
    (z3 : PySem.W.nsIn K mainGlobals "bool" = some none)
    (z4 : PySem.W.nsIn K mainGlobals "enumerate" = some none)
    (z5 : PySem.W.nsIn K mainGlobals "int" = some none)
    (z6 : PySem.W.nsIn K mainGlobals "isinstance" = some none)
    (z7 : PySem.W.nsIn K mainGlobals "len" = some none)
    (z8 : PySem.W.nsIn K mainGlobals "list" = some none)
    (z9 : PySem.W.nsIn K mainGlobals "max" = some none)
    (z10 : PySem.W.nsIn K mainGlobals "min" = some none)
    (z11 : PySem.W.nsIn K mainGlobals "range" = some none)
    (z12 : PySem.W.nsIn K mainGlobals "repr" = some none)
    (z13 : PySem.W.nsIn K mainGlobals "set" = some none)
    (z14 : PySem.W.nsIn K mainGlobals "sorted" = some none)
    (z15 : PySem.W.nsIn K mainGlobals "tuple" = some none)
    (z16 : PySem.W.nsIn K mainGlobals "zip" = some none)
    {t0 : Tok} (q0 : PySem.W.nsIn K mainGlobals "LAST_DAY" = some (some (.int 1000000000 t0)))
    (mk : ∀ (T : Txt K mg) (base : Heap), FnG P w K mg base CX0 9 T.f_law T.d_law ["_law_script"] (spLaw K)) :
    ∃ fd : FuncData, (∀ (s : Shared) (v : Value), BindsTo s fd ⟨[v], []⟩ [("_law_script", v)]) ∧ ∀ base : Heap, K.In base → base.Ns mainGlobals mg → FnG P w K mg base CX0 9 fa fd ["_law_script"] (spLaw K) := by
  have e := hfa.symm.trans (PySem.W.mg_of X G a14)
  cases e
  have F1 := fun_mk (st := s_check) l1 c1 k1
  have b1 := F1.binds (ps := ["answers"]) fun _ _ _ _ _ _ us hl => match us, hl with | [_], _ => rfl
  have F2 := fun_mk (st := s_is_integer) l2 c2 k2
  have b2 := F2.binds (ps := ["thing"]) fun _ _ _ _ _ _ us hl => match us, hl with | [_], _ => rfl
  have F3 := fun_mk (st := s_is_day) l3 c3 k3
  have b3 := F3.binds (ps := ["thing"]) fun _ _ _ _ _ _ us hl => match us, hl with | [_], _ => rfl
  have F4 := fun_mk (st := s__are_spans) l4 c4 k4
  have b4 := F4.binds (ps := ["thing"]) fun _ _ _ _ _ _ us hl => match us, hl with | [_], _ => rfl
  have F5 := fun_mk (st := s__is_span) l5 c5 k5
  have b5 := F5.binds (ps := ["thing"]) fun _ _ _ _ _ _ us hl => match us, hl with | [_], _ => rfl
  have F6 := fun_mk (st := s__fewest) l6 c6 k6
  have b6 := F6.binds (ps := ["spans"]) fun _ _ _ _ _ _ us hl => match us, hl with | [_], _ => rfl
  have F7 := fun_mk (st := s__law_bag) l7 c7 k7
  have b7 := F7.binds (ps := ["_law_script"]) fun _ _ _ _ _ _ us hl => match us, hl with | [_], _ => rfl
  have F8 := fun_mk (st := s__law_take) l8 c8 k8
  have b8 := F8.binds (ps := ["_law_bag_here", "_law_many"]) fun _ _ _ _ _ _ us hl => match us, hl with | [_, _], _ => rfl
  have F9 := fun_mk (st := s__law_mixed) l9 c9 k9
  have b9 := F9.binds (ps := ["_law_bag_here", "_law_things"]) fun _ _ _ _ _ _ us hl => match us, hl with | [_, _], _ => rfl
  have F10 := fun_mk (st := s__law_drawn_spans) l10 c10 k10
  have b10 := F10.binds (ps := ["_law_bag_here", "_law_many"]) fun _ _ _ _ _ _ us hl => match us, hl with | [_, _], _ => rfl
  have F11 := fun_mk (st := s__law_has_day) l11 c11 k11
  have b11 := F11.binds (ps := ["_law_spans", "_law_day"]) fun _ _ _ _ _ _ us hl => match us, hl with | [_, _], _ => rfl
  have F12 := fun_mk (st := s__law_points) l12 c12 k12
  have b12 := F12.binds (ps := ["_law_several"]) fun _ _ _ _ _ _ us hl => match us, hl with | [_], _ => rfl
  have F13 := fun_mk (st := s__law_later) l13 c13 k13
  have b13 := F13.binds (ps := ["_law_spans", "_law_points_here", "_law_day", "_law_wanted"]) fun _ _ _ _ _ _ us hl => match us, hl with | [_, _, _, _], _ => rfl
  have F14 := fun_mk (st := s_law) l14 c14 k14
  have b14 := F14.binds (ps := ["_law_script"]) fun _ _ _ _ _ _ us hl => match us, hl with | [_], _ => rfl
  have F15 := funE_mk (st := s_Days___init__) l15 c15 k15
  have b15 := bind1 (fd := (PySem.W.fnOf "__init__" "Days.__init__" (defArgs s_Days___init__) (defBody s_Days___init__) (defScope s_Days___init__) (.ref tD15) kV15 dc15 pm15 an15 cd15 ct15)) (ps := ["self", "spans"]) d15 rfl fun us hl => match us, hl with | [_, _], _ => ⟨_, rfl, rfl⟩
  have F16 := funE_mk (st := s_Days_spans) l16 c16 k16
  have b16 := Binds.all (K := K) (fd := (PySem.W.fnOf "spans" "Days.spans" (defArgs s_Days_spans) (defBody s_Days_spans) (defScope s_Days_spans) .none kV16 dc16 pm16 an16 cd16 ct16)) (ps := ["self"]) fun us hl => match us, hl with | [_], _ => rfl
  have F17 := funE_mk (st := s_Days_earliest) l17 c17 k17
  have b17 := Binds.all (K := K) (fd := (PySem.W.fnOf "earliest" "Days.earliest" (defArgs s_Days_earliest) (defBody s_Days_earliest) (defScope s_Days_earliest) .none kV17 dc17 pm17 an17 cd17 ct17)) (ps := ["self"]) fun us hl => match us, hl with | [_], _ => rfl
  have F18 := funE_mk (st := s_Days_beyond) l18 c18 k18
  have b18 := Binds.all (K := K) (fd := (PySem.W.fnOf "beyond" "Days.beyond" (defArgs s_Days_beyond) (defBody s_Days_beyond) (defScope s_Days_beyond) .none kV18 dc18 pm18 an18 cd18 ct18)) (ps := ["self", "day"]) fun us hl => match us, hl with | [_, _], _ => rfl
  have F19 := funE_mk (st := s_Days_turn) l19 c19 k19
  have b19 := Binds.all (K := K) (fd := (PySem.W.fnOf "turn" "Days.turn" (defArgs s_Days_turn) (defBody s_Days_turn) (defScope s_Days_turn) .none kV19 dc19 pm19 an19 cd19 ct19)) (ps := ["self", "day"]) fun us hl => match us, hl with | [_, _], _ => rfl
  have F20 := funE_mk (st := s_Days___invert__) l20 c20 k20
  have b20 := Binds.all (K := K) (fd := (PySem.W.fnOf "__invert__" "Days.__invert__" (defArgs s_Days___invert__) (defBody s_Days___invert__) (defScope s_Days___invert__) .none kV20 dc20 pm20 an20 cd20 ct20)) (ps := ["self"]) fun us hl => match us, hl with | [_], _ => rfl
  have F21 := funE_mk (st := s_Days___contains__) l21 c21 k21
  have b21 := Binds.all (K := K) (fd := (PySem.W.fnOf "__contains__" "Days.__contains__" (defArgs s_Days___contains__) (defBody s_Days___contains__) (defScope s_Days___contains__) .none kV21 dc21 pm21 an21 cd21 ct21)) (ps := ["self", "day"]) fun us hl => match us, hl with | [_, _], _ => rfl
  have F22 := funE_mk (st := s_Days___repr__) l22 c22 k22
  have b22 := Binds.all (K := K) (fd := (PySem.W.fnOf "__repr__" "Days.__repr__" (defArgs s_Days___repr__) (defBody s_Days___repr__) (defScope s_Days___repr__) .none kV22 dc22 pm22 an22 cd22 ct22)) (ps := ["self"]) fun us hl => match us, hl with | [_], _ => rfl
  let T : Txt K mg := { cs := ⟨CDays⟩, f_check := f1, d_check := _, F_check := F1, b_check := b1, g_check := PySem.W.mg_of X G a1, f_is_integer := f2, d_is_integer := _, F_is_integer := F2, b_is_integer := b2, g_is_integer := PySem.W.mg_of X G a2, f_is_day := f3, d_is_day := _, F_is_day := F3, b_is_day := b3, g_is_day := PySem.W.mg_of X G a3, f__are_spans := f4, d__are_spans := _, F__are_spans := F4, b__are_spans := b4, g__are_spans := PySem.W.mg_of X G a4, f__is_span := f5, d__is_span := _, F__is_span := F5, b__is_span := b5, g__is_span := PySem.W.mg_of X G a5, f__fewest := f6, d__fewest := _, F__fewest := F6, b__fewest := b6, g__fewest := PySem.W.mg_of X G a6, f__law_bag := f7, d__law_bag := _, F__law_bag := F7, b__law_bag := b7, g__law_bag := PySem.W.mg_of X G a7, f__law_take := f8, d__law_take := _, F__law_take := F8, b__law_take := b8, g__law_take := PySem.W.mg_of X G a8, f__law_mixed := f9, d__law_mixed := _, F__law_mixed := F9, b__law_mixed := b9, g__law_mixed := PySem.W.mg_of X G a9, f__law_drawn_spans := f10, d__law_drawn_spans := _, F__law_drawn_spans := F10, b__law_drawn_spans := b10, g__law_drawn_spans := PySem.W.mg_of X G a10, f__law_has_day := f11, d__law_has_day := _, F__law_has_day := F11, b__law_has_day := b11, g__law_has_day := PySem.W.mg_of X G a11, f__law_points := f12, d__law_points := _, F__law_points := F12, b__law_points := b12, g__law_points := PySem.W.mg_of X G a12, f__law_later := f13, d__law_later := _, F__law_later := F13, b__law_later := b13, g__law_later := PySem.W.mg_of X G a13, f_law := fa, d_law := _, F_law := F14, b_law := b14, g_law := PySem.W.mg_of X G a14, f_Days___init__ := f15, d_Days___init__ := _, F_Days___init__ := F15, b_Days___init__ := b15, at_Days___init__ := a15, fn_Days___init__ := i15, f_Days_spans := f16, d_Days_spans := _, F_Days_spans := F16, b_Days_spans := b16, at_Days_spans := a16, fn_Days_spans := i16, f_Days_earliest := f17, d_Days_earliest := _, F_Days_earliest := F17, b_Days_earliest := b17, at_Days_earliest := a17, fn_Days_earliest := i17, f_Days_beyond := f18, d_Days_beyond := _, F_Days_beyond := F18, b_Days_beyond := b18, at_Days_beyond := a18, fn_Days_beyond := i18, f_Days_turn := f19, d_Days_turn := _, F_Days_turn := F19, b_Days_turn := b19, at_Days_turn := a19, fn_Days_turn := i19, f_Days___invert__ := f20, d_Days___invert__ := _, F_Days___invert__ := F20, b_Days___invert__ := b20, at_Days___invert__ := a20, fn_Days___invert__ := i20, f_Days___contains__ := f21, d_Days___contains__ := _, F_Days___contains__ := F21, b_Days___contains__ := b21, at_Days___contains__ := a21, fn_Days___contains__ := i21, f_Days___repr__ := f22, d_Days___repr__ := _, F_Days___repr__ := F22, b_Days___repr__ := b22, at_Days___repr__ := a22, fn_Days___repr__ := i22, cl_Days := ⟨pgDays, hdDays, poDays, saDays⟩, mk_Days := ⟨mkDays, a15, i15, kcDays⟩, g_Days := PySem.W.mg_of X G aCDays, na_Days__spans := nDays_spans, z_abs := PySem.W.mg_none_of X G z0, z_all := PySem.W.mg_none_of X G z1, z_any := PySem.W.mg_none_of X G z2, z_bool := PySem.W.mg_none_of X G z3, z_enumerate := PySem.W.mg_none_of X G z4, z_int := PySem.W.mg_none_of X G z5, z_isinstance := PySem.W.mg_none_of X G z6, z_len := PySem.W.mg_none_of X G z7, z_list := PySem.W.mg_none_of X G z8, z_max := PySem.W.mg_none_of X G z9, z_min := PySem.W.mg_none_of X G z10, z_range := PySem.W.mg_none_of X G z11, z_repr := PySem.W.mg_none_of X G z12, z_set := PySem.W.mg_none_of X G z13, z_sorted := PySem.W.mg_none_of X G z14, z_tuple := PySem.W.mg_none_of X G z15, z_zip := PySem.W.mg_none_of X G z16, c_LAST_DAY := ⟨_, PySem.W.mg_of X G q0⟩ }
  exact ⟨T.d_law, fun s v => .of_eq rfl, fun base _ _ => mk T base⟩


end K23
open PySem PySem.W PyProof.Rows
set_option maxHeartbeats 0 in
theorem PySem.Challenge.cw_vouchchains_k23_earliest_beyond_turn_holds : PySem.Challenge.rw_vouchchains_k23_earliest_beyond_turn.Holds := by
  w_on; o_law; k_head; (case hw => w_witness2)
  k_fill
  refine Dz.walk_ofG (l := PySem.Challenge.rw_vouchchains_k23_earliest_beyond_turn) (n := 63) (k := 9) (x := "_law_script") (sp := fun K => Dz.spLaw K) rfl (by decide) rfl ⟨rfl, by decide, by decide⟩ rfl (fun w h Y => PySem.W.kIn_of Y) ?F (fun K H a ns hl _ hS => ⟨a, ns, rfl, hS, hl, fun _ => rfl⟩)
  case F =>
    intro w mg fa h KX G hmg
    refine' K23.all_mk KX G hmg ?aCDays ?a1 ?l1 ?c1 ?k1 ?a2 ?l2 ?c2 ?k2 ?a3 ?l3 ?c3 ?k3 ?a4 ?l4 ?c4 ?k4 ?a5 ?l5 ?c5 ?k5 ?a6 ?l6 ?c6 ?k6 ?a7 ?l7 ?c7 ?k7 ?a8 ?l8 ?c8 ?k8 ?a9 ?l9 ?c9 ?k9 ?a10 ?l10 ?c10 ?k10 ?a11 ?l11 ?c11 ?k11 ?a12 ?l12 ?c12 ?k12 ?a13 ?l13 ?c13 ?k13 ?a14 ?l14 ?c14 ?k14 ?a15 ?i15 ?l15 ?d15 ?c15 ?k15 ?a16 ?i16 ?l16 ?c16 ?k16 ?a17 ?i17 ?l17 ?c17 ?k17 ?a18 ?i18 ?l18 ?c18 ?k18 ?a19 ?i19 ?l19 ?c19 ?k19 ?a20 ?i20 ?l20 ?c20 ?k20 ?a21 ?i21 ?l21 ?c21 ?k21 ?a22 ?i22 ?l22 ?c22 ?k22 ?pgDays ?hdDays ?poDays ?saDays ?mkDays ?kcDays ?nDays_spans ?z0 ?z1 ?z2 ?z3 ?z4 ?z5 ?z6 ?z7 ?z8 ?z9 ?z10 ?z11 ?z12 ?z13 ?z14 ?z15 ?z16 ?q0 ?mk
    case mk => exact fun T base => K23.law_all T
    (case aCDays => k_is); (case a1 => k_is); (case l1 => k_is); (case c1 => k_is); (case k1 => k_is); (case a2 => k_is); (case l2 => k_is); (case c2 => k_is); (case k2 => k_is); (case a3 => k_is); (case l3 => k_is); (case c3 => k_is); (case k3 => k_is); (case a4 => k_is); (case l4 => k_is); (case c4 => k_is); (case k4 => k_is); (case a5 => k_is); (case l5 => k_is); (case c5 => k_is); (case k5 => k_is); (case a6 => k_is); (case l6 => k_is); (case c6 => k_is); (case k6 => k_is); (case a7 => k_is); (case l7 => k_is); (case c7 => k_is); (case k7 => k_is); (case a8 => k_is); (case l8 => k_is); (case c8 => k_is); (case k8 => k_is); (case a9 => k_is); (case l9 => k_is); (case c9 => k_is); (case k9 => k_is); (case a10 => k_is); (case l10 => k_is); (case c10 => k_is); (case k10 => k_is); (case a11 => k_is); (case l11 => k_is); (case c11 => k_is); (case k11 => k_is); (case a12 => k_is); (case l12 => k_is); (case c12 => k_is); (case k12 => k_is); (case a13 => k_is); (case l13 => k_is); (case c13 => k_is); (case k13 => k_is); (case a14 => k_is); (case l14 => k_is); (case c14 => k_is); (case k14 => k_is); (case a15 => k_is); (case i15 => k_is); (case l15 => k_is); (case d15 => k_is); (case c15 => k_is); (case k15 => k_is); (case a16 => k_is); (case i16 => k_is); (case l16 => k_is); (case c16 => k_is); (case k16 => k_is); (case a17 => k_is); (case i17 => k_is); (case l17 => k_is); (case c17 => k_is); (case k17 => k_is); (case a18 => k_is); (case i18 => k_is); (case l18 => k_is); (case c18 => k_is); (case k18 => k_is); (case a19 => k_is); (case i19 => k_is); (case l19 => k_is); (case c19 => k_is); (case k19 => k_is); (case a20 => k_is); (case i20 => k_is); (case l20 => k_is); (case c20 => k_is); (case k20 => k_is); (case a21 => k_is); (case i21 => k_is); (case l21 => k_is); (case c21 => k_is); (case k21 => k_is); (case a22 => k_is); (case i22 => k_is); (case l22 => k_is); (case c22 => k_is); (case k22 => k_is); (case pgDays => k_is); (case hdDays => k_is); (case poDays => k_is); (case saDays => k_is); (case mkDays => k_is); (case kcDays => k_is); (case nDays_spans => k_is); (case z0 => k_is); (case z1 => k_is); (case z2 => k_is); (case z3 => k_is); (case z4 => k_is); (case z5 => k_is); (case z6 => k_is); (case z7 => k_is); (case z8 => k_is); (case z9 => k_is); (case z10 => k_is); (case z11 => k_is); (case z12 => k_is); (case z13 => k_is); (case z14 => k_is); (case z15 => k_is); (case z16 => k_is); (case q0 => k_is)

