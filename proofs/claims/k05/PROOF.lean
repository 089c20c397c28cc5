import PyProof.Rows.All
import Wide.All
import OpenK.AllK
import Wide.FinOn
import HandS.ForMost
import HandS.ForExc
import HandS.ExcInit
import HandS.IsInst
import HandS.DictComp
import HandS.Flow
import HandS.Wide
import KE.KStateDown
import Lean
import HandS.More
import HandS.WordsExc
import HandS.Defaults
import HandS.Head0
import HandS.Head1
import HandS.Head2
import HandS.HeadEnd
import HandS.HeadHook1
import HandS.HeadHook2
import PyProof.StrBlock2
import HandS.TupAny
import HandS.Comp
import HandS.Iter
import HandS.Codes
import HandS.HeadHook4
import HandS.Dict
import KE.KRevSl
import HandS.Remove
import HandS.Rev
import HandS.SortKw
import HandS.SortInts
import HandS.FStr
import HandS.Conv
import KE.DatumOrd
import KE.GoesEnum
import KE.GoesMore
import KE.KDictSum
import HandS.ExcOwn
import PyProof.ExcBaseAll.ValueError
import HandS.Star
import HandS.Zip
import HandS.TupSets
import KE.KSortTupG
import HandS.TryMany
import HandS.ExcField
import KE.KTryMore
import HandS.TupMul
import PyProof.Rows.MatchSeqLen
import HandS.SetFor
import HandS.Strs
import HandS.HotCalls
import HandS.TupLe
import PySem.Challenge.RW_latestart_k05_written_bills
set_option Elab.async false
set_option linter.all false
set_option maxRecDepth 100000
set_option maxHeartbeats 4000000
namespace Dl
open PySem L2

/-! ## data -/
inductive D where
  | non | bl (b : Bool) | int (i : Int) | str (s : List Nat) | tup (ds : List D) | lst (ds : List D) | dic (ks : List (Sum Int (List Nat))) (ds : List D) | exn (a dd : Addr) (ks : List Str) (ds : List D) | ref (n : Nat) | scr (ns : List Int) | key (ns : List Int)
inductive Ob where
  | lst (ds : List D) | ins (c : Str) (fs : List (Str × D)) | dic (ks : List (Sum Int (List Nat))) (ds : List D) | dcT (ks : List (List Int)) (ds : List D)
abbrev PEnv := List (Option D)
abbrev GS := List Ob
abbrev MG := Str → Option Value

def S (l : List Nat) : Str := ⟨l.toArray⟩
def kS : Sum Int (List Nat) → Key
  | .inl i => .inl i
  | .inr l => .inr (S l)

def LstAt (K : PySem.W.Frag) (ρ : List Addr) (H : Hp) (a : Addr) (vs : List V) : Prop := (Rd H a (.lst vs) ∧ a ∉ ρ) ∨ SqL K (fun _ => none) a vs
def TupAt (K : PySem.W.Frag) (ρ : List Addr) (H : Hp) (a : Addr) (vs : List V) : Prop := (Rd H a (.tup vs) ∧ a ∉ ρ) ∨ SqT K (fun _ => none) a vs

mutual
def RD (K : PySem.W.Frag) (ρ : List Addr) (H : Hp) : D → V → Prop
  | .non, v => v = .non
  | .bl b, v => v = .bl b
  | .int i, v => v = .int i
  | .str s, v => v = .str (S s)
  | .tup ds, v => ∃ a vs, v = .ref a ∧ TupAt K ρ H a vs ∧ RDs K ρ H ds vs
  | .lst ds, v => ∃ a vs, v = .ref a ∧ (H a = some (.lst vs) ∧ a ∉ ρ) ∧ RDs K ρ H ds vs
  | .dic ks ds, v => ∃ a kvs, v = .ref a ∧ H a = some (.dK kvs) ∧ a ∉ ρ ∧ kvs.map (·.1) = ks.map kS ∧ RDs K ρ H ds (kvs.map (·.2))
  | .exn a dd ks ds, v => v = .ref a ∧ ∃ us, H dd = some (.xd us) ∧ dd ∉ ρ ∧ us.map (·.1) = ks ∧ RDs K ρ H ds (us.map (·.2))
  | .ref n, v => ∃ a, ρ[n]? = some a ∧ v = .ref a
  | .scr ns, v => ∃ a, v = .ref a ∧ LstAt K ρ H a (ns.map V.int)
  | .key ns, v => ∃ a, v = .ref a ∧ H a = some (.tup (ns.map V.int)) ∧ a ∉ ρ
def RDs (K : PySem.W.Frag) (ρ : List Addr) (H : Hp) : List D → List V → Prop
  | [], vs => vs = []
  | d :: ds, vs => ∃ v r, vs = v :: r ∧ RD K ρ H d v ∧ RDs K ρ H ds r
end

theorem SqL.none {K : PySem.W.Frag} {H : Hp} {a : Addr} {vs : List V} (h : SqL K (fun _ => none) a vs) : SqL K H a vs := by
  rcases h with (h | ⟨o, h⟩) | h
  · cases h
  · cases h
  · exact .inr h
theorem SqT.none {K : PySem.W.Frag} {H : Hp} {a : Addr} {vs : List V} (h : SqT K (fun _ => none) a vs) : SqT K H a vs := by
  rcases h with (h | ⟨o, h⟩) | h
  · cases h
  · cases h
  · exact .inr h
theorem LstAt.sq {K : PySem.W.Frag} {ρ : List Addr} {H : Hp} {a : Addr} {vs : List V} (h : LstAt K ρ H a vs) : SqL K H a vs := by
  rcases h with ⟨h, _⟩ | h
  · exact .inl h
  · exact SqL.none h
theorem TupAt.sq {K : PySem.W.Frag} {ρ : List Addr} {H : Hp} {a : Addr} {vs : List V} (h : TupAt K ρ H a vs) : SqT K H a vs := by
  rcases h with ⟨h, _⟩ | h
  · exact .inl h
  · exact SqT.none h

structure Ext (ρ : List Addr) (H : Hp) (ρ' : List Addr) (H' : Hp) : Prop where
  pre : ∃ t, ρ' = ρ ++ t
  keep : ∀ a o, H a = some o → a ∉ ρ → H' a = some o
  new : ∀ a, a ∈ ρ' → a ∉ ρ → H a = none

theorem Ext.refl (ρ : List Addr) (H : Hp) : Ext ρ H ρ H := ⟨⟨[], by simp⟩, fun _ _ h _ => h, fun a h h' => absurd h h'⟩
theorem Ext.sub {ρ H ρ' H'} (e : Ext ρ H ρ' H') {a : Addr} (h : a ∈ ρ) : a ∈ ρ' := by
  obtain ⟨t, rfl⟩ := e.pre
  exact List.mem_append_left _ h
theorem Ext.notin {ρ H ρ' H'} (e : Ext ρ H ρ' H') {a : Addr} {o : HO} (h : H a = some o) (h2 : a ∉ ρ) : a ∉ ρ' := fun h3 => by
  have := e.new a h3 h2
  rw [h] at this; cases this
theorem Ext.get {ρ H ρ' H'} (e : Ext ρ H ρ' H') {n : Nat} {a : Addr} (h : ρ[n]? = some a) : ρ'[n]? = some a := by
  obtain ⟨t, rfl⟩ := e.pre
  rw [List.getElem?_append_left (List.getElem?_eq_some_iff.mp h).1]; exact h
theorem Ext.trans {ρ H ρ1 H1 ρ2 H2} (e : Ext ρ H ρ1 H1) (f : Ext ρ1 H1 ρ2 H2) : Ext ρ H ρ2 H2 where
  pre := by
    obtain ⟨t, rfl⟩ := e.pre
    obtain ⟨u, rfl⟩ := f.pre
    exact ⟨t ++ u, by simp⟩
  keep := fun a o h n => f.keep a o (e.keep a o h n) (e.notin h n)
  new := fun a h n => by
    by_cases h1 : a ∈ ρ1
    · exact e.new a h1 n
    · have z := f.new a h h1
      cases q : H a with
      | none => rfl
      | some o => rw [e.keep a o q n] at z; cases z

theorem Rd.ext {ρ H ρ' H'} (e : Ext ρ H ρ' H') {a : Addr} {u : HO} (h : Rd H a u) (n : a ∉ ρ) : Rd H' a u ∧ a ∉ ρ' := by
  rcases h with h | ⟨o, h⟩
  · exact ⟨.inl (e.keep _ _ h n), e.notin h n⟩
  · exact ⟨.inr ⟨o, e.keep _ _ h n⟩, e.notin h n⟩
theorem LstAt.ext {K ρ H ρ' H'} (e : Ext ρ H ρ' H') {a : Addr} {vs : List V} (h : LstAt K ρ H a vs) : LstAt K ρ' H' a vs := by
  rcases h with ⟨h, n⟩ | h
  · exact .inl (Rd.ext e h n)
  · exact .inr h
theorem TupAt.ext {K ρ H ρ' H'} (e : Ext ρ H ρ' H') {a : Addr} {vs : List V} (h : TupAt K ρ H a vs) : TupAt K ρ' H' a vs := by
  rcases h with ⟨h, n⟩ | h
  · exact .inl (Rd.ext e h n)
  · exact .inr h
mutual
theorem RD.ext {K ρ H ρ' H'} (e : Ext ρ H ρ' H') : ∀ {d : D} {v : V}, RD K ρ H d v → RD K ρ' H' d v
  | .non, _, h => h
  | .bl _, _, h => h
  | .int _, _, h => h
  | .str _, _, h => h
  | .tup _, _, ⟨a, vs, h1, h2, h3⟩ => ⟨a, vs, h1, h2.ext e, RDs.ext e h3⟩
  | .lst _, _, ⟨a, vs, h1, h2, h3⟩ => ⟨a, vs, h1, ⟨e.keep _ _ h2.1 h2.2, e.notin h2.1 h2.2⟩, RDs.ext e h3⟩
  | .dic _ _, _, ⟨a, kvs, h1, h2, h3, h4, h5⟩ => ⟨a, kvs, h1, e.keep _ _ h2 h3, e.notin h2 h3, h4, RDs.ext e h5⟩
  | .exn _ _ _ _, _, ⟨h1, us, h2, h3, h4, h5⟩ => ⟨h1, us, e.keep _ _ h2 h3, e.notin h2 h3, h4, RDs.ext e h5⟩
  | .ref _, _, ⟨a, h1, h2⟩ => ⟨a, e.get h1, h2⟩
  | .scr _, _, ⟨a, h1, h2⟩ => ⟨a, h1, h2.ext e⟩
  | .key _, _, ⟨a, h1, h2, h3⟩ => ⟨a, h1, e.keep _ _ h2 h3, e.notin h2 h3⟩
theorem RDs.ext {K ρ H ρ' H'} (e : Ext ρ H ρ' H') : ∀ {ds : List D} {vs : List V}, RDs K ρ H ds vs → RDs K ρ' H' ds vs
  | [], _, h => h
  | _ :: _, _, ⟨v, r, h1, h2, h3⟩ => ⟨v, r, h1, RD.ext e h2, RDs.ext e h3⟩
end

section
variable {K : PySem.W.Frag} {ρ : List Addr} {H : Hp}
theorem RDs.nil : RDs K ρ H [] [] := rfl
theorem RDs.cons {d : D} {v : V} {ds : List D} {vs : List V} (h : RD K ρ H d v) (h' : RDs K ρ H ds vs) : RDs K ρ H (d :: ds) (v :: vs) := ⟨v, vs, rfl, h, h'⟩
theorem RDs.length : ∀ {ds : List D} {vs : List V}, RDs K ρ H ds vs → ds.length = vs.length
  | [], _, h => by cases (show _ = _ from h); rfl
  | _ :: _, _, ⟨v, r, e, _, h⟩ => by subst e; simp [RDs.length h]
theorem RDs.get : ∀ {ds : List D} {vs : List V} {i : Nat} {d : D}, RDs K ρ H ds vs → ds[i]? = some d → ∃ v, vs[i]? = some v ∧ RD K ρ H d v
  | [], _, _, _, _, h => by simp at h
  | _ :: _, _, 0, d, ⟨v, r, e, h1, h2⟩, h => by subst e; simp at h; subst h; exact ⟨v, rfl, h1⟩
  | _ :: _, _, i + 1, d, ⟨v, r, e, h1, h2⟩, h => by
    subst e
    obtain ⟨w, p, q⟩ := RDs.get (i := i) (d := d) h2 (by simpa using h)
    exact ⟨w, by simpa using p, q⟩
theorem RDs.append : ∀ {ds es : List D} {vs ws : List V}, RDs K ρ H ds vs → RDs K ρ H es ws → RDs K ρ H (ds ++ es) (vs ++ ws)
  | [], _, _, _, h, h' => by cases (show _ = _ from h); exact h'
  | _ :: _, _, _, _, ⟨v, r, e, h1, h2⟩, h' => by subst e; exact ⟨v, _, rfl, h1, RDs.append h2 h'⟩
theorem RDs.set {d : D} {v : V} (r : RD K ρ H d v) : ∀ {ds : List D} {vs : List V} (i : Nat), RDs K ρ H ds vs → RDs K ρ H (ds.set i d) (vs.set i v)
  | [], _, _, h => by cases (show _ = _ from h); exact h
  | _ :: _, _, 0, ⟨_, r', e, _, h2⟩ => by subst e; exact ⟨v, _, rfl, r, h2⟩
  | _ :: _, _, i + 1, ⟨w, r', e, h1, h2⟩ => by subst e; exact ⟨w, _, rfl, h1, RDs.set r i h2⟩
theorem RDs.take : ∀ {ds : List D} {vs : List V} (n : Nat), RDs K ρ H ds vs → RDs K ρ H (ds.take n) (vs.take n)
  | _, _, 0, _ => rfl
  | [], _, n + 1, h => by cases (show _ = _ from h); rfl
  | _ :: _, _, n + 1, ⟨w, r', e, h1, h2⟩ => by subst e; exact ⟨w, _, rfl, h1, RDs.take n h2⟩
theorem RDs.drop : ∀ {ds : List D} {vs : List V} (n : Nat), RDs K ρ H ds vs → RDs K ρ H (ds.drop n) (vs.drop n)
  | _, _, 0, h => h
  | [], _, n + 1, h => by cases (show _ = _ from h); rfl
  | _ :: _, _, n + 1, ⟨w, r', e, h1, h2⟩ => by subst e; exact RDs.drop n h2
theorem RDs.reverse : ∀ {ds : List D} {vs : List V}, RDs K ρ H ds vs → RDs K ρ H ds.reverse vs.reverse
  | [], _, h => by cases (show _ = _ from h); rfl
  | _ :: _, _, ⟨w, r', e, h1, h2⟩ => by
    subst e
    rw [List.reverse_cons, List.reverse_cons]
    exact RDs.append (RDs.reverse h2) ⟨w, [], rfl, h1, rfl⟩
theorem RDs.dropLast {ds : List D} {vs : List V} (h : RDs K ρ H ds vs) : RDs K ρ H ds.dropLast vs.dropLast := by
  rw [List.dropLast_eq_take, List.dropLast_eq_take, h.length]
  exact h.take _
theorem RDs.ints : ∀ {ns : List Int}, RDs K ρ H (ns.map D.int) (ns.map V.int)
  | [] => rfl
  | n :: ns => ⟨_, _, rfl, rfl, RDs.ints⟩
end

/-! ## the state -/
def RO (K : PySem.W.Frag) (mg : Str → Option Value) (ρ : List Addr) (H : Hp) (a : Addr) : Ob → Prop
  | .lst ds => ∃ vs, H a = some (.lst vs) ∧ RDs K ρ H ds vs
  | .ins c fs => ∃ C dx fvs, mg c = some (.ref C) ∧ H a = some (.ins C dx fvs) ∧ fvs.map (·.1) = fs.map (·.1) ∧ RDs K ρ H (fs.map (·.2)) (fvs.map (·.2))
  | .dic ks ds => ∃ kvs, H a = some (.dK kvs) ∧ kvs.map (·.1) = ks.map kS ∧ RDs K ρ H ds (kvs.map (·.2))
  | .dcT ks ds => ∃ kvs : List (List Key × V), H a = some (.dT kvs) ∧ kvs.map (·.1) = ks.map (fun k => k.map Sum.inl) ∧ RDs K ρ H ds (kvs.map (·.2))
theorem RO.there {K : PySem.W.Frag} {mg : MG} {ρ : List Addr} {H : Hp} {a : Addr} {ob : Ob} (h : RO K mg ρ H a ob) : ∃ o, H a = some o := by
  cases ob with
  | lst ds => obtain ⟨vs, h, _⟩ := h; exact ⟨_, h⟩
  | ins c fs => obtain ⟨C, dx, fvs, _, h, _⟩ := h; exact ⟨_, h⟩
  | dic ks ds => obtain ⟨kvs, h, _⟩ := h; exact ⟨_, h⟩
  | dcT ks ds => obtain ⟨kvs, h, _⟩ := h; exact ⟨_, h⟩
theorem RO.ext {K : PySem.W.Frag} {mg : MG} {ρ ρ' : List Addr} {H H' : Hp} {a : Addr} {ob : Ob} (h : RO K mg ρ H a ob) (e : Ext ρ H ρ' H') (s : H' a = H a) : RO K mg ρ' H' a ob := by
  cases ob with
  | lst ds => obtain ⟨vs, h, r⟩ := h; exact ⟨vs, s.trans h, r.ext e⟩
  | ins c fs => obtain ⟨C, dx, fvs, g, h, k, r⟩ := h; exact ⟨C, dx, fvs, g, s.trans h, k, r.ext e⟩
  | dic ks ds => obtain ⟨kvs, h, k, r⟩ := h; exact ⟨kvs, s.trans h, k, r.ext e⟩
  | dcT ks ds => obtain ⟨kvs, h, k, r⟩ := h; exact ⟨kvs, s.trans h, k, r.ext e⟩

structure RS (K : PySem.W.Frag) (mg : Str → Option Value) (ρ : List Addr) (G : GS) (H : Hp) : Prop where
  nd : ρ.Nodup
  len : ρ.length = G.length
  at_ : ∀ (i : Nat) (a : Addr) (ob : Ob), ρ[i]? = some a → G[i]? = some ob → RO K mg ρ H a ob
theorem RS.get {K : PySem.W.Frag} {mg : MG} {ρ : List Addr} {G : GS} {H : Hp} (r : RS K mg ρ G H) {i : Nat} {ob : Ob} (h : G[i]? = some ob) : ∃ a, ρ[i]? = some a ∧ RO K mg ρ H a ob := by
  have hi : i < ρ.length := by rw [r.len]; exact (List.getElem?_eq_some_iff.mp h).1
  have ha : ρ[i]? = some ρ[i] := List.getElem?_eq_getElem hi
  exact ⟨_, ha, r.at_ i _ ob ha h⟩
theorem RS.tracked {K : PySem.W.Frag} {mg : MG} {ρ : List Addr} {G : GS} {H : Hp} (r : RS K mg ρ G H) {a : Addr} (h : a ∈ ρ) : ∃ o, H a = some o := by
  obtain ⟨i, hi, e⟩ := List.mem_iff_getElem.mp h
  have hg : i < G.length := by rw [← r.len]; exact hi
  exact (r.at_ i a G[i] (by rw [← e]; exact List.getElem?_eq_getElem hi) (List.getElem?_eq_getElem hg)).there
theorem RS.fresh {K : PySem.W.Frag} {mg : MG} {ρ : List Addr} {G : GS} {H : Hp} (r : RS K mg ρ G H) {p : Addr} (h : H p = none) : p ∉ ρ := fun q => by
  obtain ⟨o, e⟩ := r.tracked q
  rw [h] at e; cases e
/-- something untracked is laid -/
theorem RS.lay {K : PySem.W.Frag} {mg : MG} {ρ : List Addr} {G : GS} {H : Hp} (r : RS K mg ρ G H) {p : Addr} (o : HO) (h : H p = none) : Ext ρ H ρ (upd H p o) ∧ RS K mg ρ G (upd H p o) := by
  have e : Ext ρ H ρ (upd H p o) := ⟨⟨[], by simp⟩, fun a u q _ => by rw [upd_ne (ne_of_none q h)]; exact q, fun a h1 h2 => absurd h1 h2⟩
  refine ⟨e, r.nd, r.len, fun i a ob h1 h2 => (r.at_ i a ob h1 h2).ext e ?_⟩
  have : a ≠ p := fun z => r.fresh h (by rw [← z]; exact List.mem_of_getElem? h1)
  exact upd_ne this
/-- a new object -/
theorem RS.push {K : PySem.W.Frag} {mg : MG} {ρ : List Addr} {G : GS} {H : Hp} (r : RS K mg ρ G H) {p : Addr} {o : HO} {ob : Ob} (h : H p = none) (q : Ext ρ H (ρ ++ [p]) (upd H p o) → RO K mg (ρ ++ [p]) (upd H p o) p ob) : Ext ρ H (ρ ++ [p]) (upd H p o) ∧ RS K mg (ρ ++ [p]) (G ++ [ob]) (upd H p o) := by
  have hp := r.fresh h
  have e : Ext ρ H (ρ ++ [p]) (upd H p o) := by
    refine ⟨⟨[p], rfl⟩, fun a u q _ => by rw [upd_ne (ne_of_none q h)]; exact q, fun a h1 h2 => ?_⟩
    rcases List.mem_append.mp h1 with z | z
    · exact absurd z h2
    · rw [List.mem_singleton.mp z]; exact h
  refine ⟨e, ?_, ?_, fun i a ob' h1 h2 => ?_⟩
  · rw [List.nodup_append]
    exact ⟨r.nd, by simp, fun a ha b hb => by rw [List.mem_singleton.mp hb]; exact fun z => hp (z ▸ ha)⟩
  · simp [r.len]
  · by_cases hi : i < ρ.length
    · rw [List.getElem?_append_left hi] at h1
      rw [List.getElem?_append_left (by rw [← r.len]; exact hi)] at h2
      refine (r.at_ i a ob' h1 h2).ext e ?_
      have : a ≠ p := fun z => hp (by rw [← z]; exact List.mem_of_getElem? h1)
      exact upd_ne this
    · have hi' : i < (ρ ++ [p]).length := (List.getElem?_eq_some_iff.mp h1).1
      have hi2 : i = ρ.length := by simp at hi'; omega
      subst hi2
      rw [List.getElem?_append_right (Nat.le_refl _)] at h1
      simp at h1
      subst h1
      rw [r.len, List.getElem?_append_right (Nat.le_refl _)] at h2
      simp at h2
      subst h2
      exact q e
/-- an object is changed -/
theorem RS.write {K : PySem.W.Frag} {mg : MG} {ρ : List Addr} {G : GS} {H : Hp} (r : RS K mg ρ G H) {n : Nat} {p : Addr} {o : HO} {ob : Ob} (h : ρ[n]? = some p) (q : Ext ρ H ρ (upd H p o) → RO K mg ρ (upd H p o) p ob) : Ext ρ H ρ (upd H p o) ∧ RS K mg ρ (G.set n ob) (upd H p o) := by
  have hm : p ∈ ρ := List.mem_of_getElem? h
  have e : Ext ρ H ρ (upd H p o) := ⟨⟨[], by simp⟩, fun a u q z => by rw [upd_ne (fun y => z (by rw [y]; exact hm))]; exact q, fun a h1 h2 => absurd h1 h2⟩
  refine ⟨e, r.nd, by simp [r.len], fun i a ob' h1 h2 => ?_⟩
  by_cases hi : i = n
  · subst hi
    have ea : p = a := Option.some.inj (h.symm.trans h1)
    subst ea
    have hl : i < G.length := by rw [← r.len]; exact (List.getElem?_eq_some_iff.mp h).1
    rw [List.getElem?_set_self hl] at h2
    cases h2
    exact q e
  · rw [List.getElem?_set_ne (fun z => hi z.symm)] at h2
    refine (r.at_ i a ob' h1 h2).ext e ?_
    exact upd_ne fun z => hi (nd_ix r.nd h1 (by rw [z]; exact h))

def RE1 (K : PySem.W.Frag) (ρ : List Addr) (H : Hp) : Option D → Option V → Prop
  | some d, some v => RD K ρ H d v
  | some _, none => False
  | none, _ => True
structure Ct (K : PySem.W.Frag) (mg : Str → Option Value) (ρ : List Addr) (σd : PEnv) (G : GS) (σ : St) (H : Hp) : Prop where
  rs : RS K mg ρ G H
  len : σ.length = σd.length
  at_ : ∀ (i : Nat) (d : D), σd[i]? = some (some d) → ∃ v, σ[i]? = some (some v) ∧ RD K ρ H d v
theorem Ct.ext {K : PySem.W.Frag} {mg : MG} {ρ ρ' : List Addr} {σd : PEnv} {G G' : GS} {σ : St} {H H' : Hp} (c : Ct K mg ρ σd G σ H) (e : Ext ρ H ρ' H') (r : RS K mg ρ' G' H') : Ct K mg ρ' σd G' σ H' :=
  ⟨r, c.len, fun i d h => let ⟨v, h1, h2⟩ := c.at_ i d h; ⟨v, h1, h2.ext e⟩⟩
theorem Ct.set {K : PySem.W.Frag} {mg : MG} {ρ : List Addr} {σd : PEnv} {G : GS} {σ : St} {H : Hp} (c : Ct K mg ρ σd G σ H) {i : Nat} {d : D} {v : V} (r : RD K ρ H d v) : Ct K mg ρ (σd.set i (some d)) G (σ.set i (some v)) H := by
  refine ⟨c.rs, by simp [c.len], fun j e h => ?_⟩
  by_cases hij : i = j
  · subst hij
    have hi : i < σd.length := by
      have := (List.getElem?_eq_some_iff.mp h).1
      simpa using this
    rw [List.getElem?_set_self hi] at h
    cases h
    exact ⟨v, List.getElem?_set_self (by rw [c.len]; exact hi), r⟩
  · rw [List.getElem?_set_ne hij] at h
    rw [List.getElem?_set_ne hij]
    exact c.at_ j e h
end Dl
namespace Dl
open PySem L2

/-! ## what a piece of the program does: values, exceptions, or nothing known -/
inductive RE (α : Type) where
  | ok (a : α) (G : GS) | exc (c : Str) (fs : List (Str × D)) (G : GS) | bad
inductive RSt where
  | nx (σ : PEnv) (G : GS) | ret (d : D) (G : GS) | brk (σ : PEnv) (G : GS) | cont (σ : PEnv) (G : GS) | exc (c : Str) (fs : List (Str × D)) (σ : PEnv) (G : GS) | bad
abbrev DE := PEnv → GS → RE D
abbrev DA := PEnv → GS → RE (List D)
abbrev DT := PEnv → GS → RE Bool
abbrev DS := PEnv → GS → RSt
abbrev DF := List D → GS → RE D

def bindE {α β : Type} (r : RE α) (f : α → GS → RE β) : RE β := match r with
  | .ok a G => f a G
  | .exc c fs G => .exc c fs G
  | .bad => .bad
def bindS {α : Type} (r : RE α) (σ : PEnv) (f : α → GS → RSt) : RSt := match r with
  | .ok a G => f a G
  | .exc c fs G => .exc c fs σ G
  | .bad => .bad
@[simp] theorem bindE_ok {α β : Type} (a : α) (G : GS) (f : α → GS → RE β) : bindE (.ok a G) f = f a G := rfl
@[simp] theorem bindE_exc {α β : Type} (c fs) (G : GS) (f : α → GS → RE β) : bindE (.exc c fs G) f = .exc c fs G := rfl
@[simp] theorem bindE_bad {α β : Type} (f : α → GS → RE β) : bindE .bad f = .bad := rfl
@[simp] theorem bindS_ok {α : Type} (a : α) (σ : PEnv) (G : GS) (f : α → GS → RSt) : bindS (.ok a G) σ f = f a G := rfl
@[simp] theorem bindS_exc {α : Type} (c fs) (σ : PEnv) (G : GS) (f : α → GS → RSt) : bindS (.exc c fs G) σ f = .exc c fs σ G := rfl
@[simp] theorem bindS_bad {α : Type} (σ : PEnv) (f : α → GS → RSt) : bindS .bad σ f = .bad := rfl

/-! ## their reading -/
/-- the dict of an exception -/
def RX (K : PySem.W.Frag) (ρ : List Addr) (H : Hp) (od : Option Addr) (fs : List (Str × D)) : Prop := match od with
  | some dx => ∃ fvs, H dx = some (.xd fvs) ∧ dx ∉ ρ ∧ fvs.map (·.1) = fs.map (·.1) ∧ RDs K ρ H (fs.map (·.2)) (fvs.map (·.2))
  | none => fs = []
theorem RX.ext {K : PySem.W.Frag} {ρ ρ' : List Addr} {H H' : Hp} {od : Option Addr} {fs : List (Str × D)} (h : RX K ρ H od fs) (e : Ext ρ H ρ' H') : RX K ρ' H' od fs := by
  cases od with
  | none => exact h
  | some dx =>
    obtain ⟨fvs, h1, h2, h3, h4⟩ := h
    exact ⟨fvs, e.keep _ _ h1 h2, e.notin h1 h2, h3, h4.ext e⟩

/-- relation of a result to a V-level thing -/
def EP' {α β : Type} (K : PySem.W.Frag) (mg : MG) (R : List Addr → Hp → α → β → Prop) (W : XK) (ρ : List Addr) (H : Hp) (r : RE α) (Q : β → Hp → Prop) : Prop := match r with
  | .ok a G' => ∀ ρ' H' v, Ext ρ H ρ' H' → RS K mg ρ' G' H' → R ρ' H' a v → Q v H'
  | .exc c fs G' => ∀ ρ' H' C od, Ext ρ H ρ' H' → RS K mg ρ' G' H' → mg c = some (.ref C) → RX K ρ' H' od fs → W (.ref C) od H'
  | .bad => False
abbrev EPD (K : PySem.W.Frag) (mg : MG) (W : XK) (ρ : List Addr) (H : Hp) (r : RE D) (Q : VK) : Prop := EP' K mg (RD K) W ρ H r Q
abbrev EPA (K : PySem.W.Frag) (mg : MG) (W : XK) (ρ : List Addr) (H : Hp) (r : RE (List D)) (Q : List V → Hp → Prop) : Prop := EP' K mg (RDs K) W ρ H r Q
abbrev EPB (K : PySem.W.Frag) (mg : MG) (W : XK) (ρ : List Addr) (H : Hp) (r : RE Bool) (Q : Bool → Hp → Prop) : Prop := EP' K mg (fun _ _ a b => a = b) W ρ H r Q

def WA (W : WX) (σ : St) : XK := fun cls d H => W cls d σ H
def tE (K : PySem.W.Frag) (mg : MG) (W : WX) (r : DE) : TE := fun σ H Q => ∃ ρ σd G, Ct K mg ρ σd G σ H ∧ EPD K mg (WA W σ) ρ H (r σd G) Q
def tA (K : PySem.W.Frag) (mg : MG) (W : WX) (r : DA) : TA := fun σ H Q => ∃ ρ σd G, Ct K mg ρ σd G σ H ∧ EPA K mg (WA W σ) ρ H (r σd G) Q
def tT (K : PySem.W.Frag) (mg : MG) (W : WX) (r : DT) : TT := fun σ H Q => ∃ ρ σd G, Ct K mg ρ σd G σ H ∧ EPB K mg (WA W σ) ρ H (r σd G) Q
def SPst (K : PySem.W.Frag) (mg : MG) (W : WX) (ρ : List Addr) (H : Hp) (r : RSt) (D : Ends) : Prop := match r with
  | .nx σd' G' => ∀ ρ' H' σ', Ext ρ H ρ' H' → Ct K mg ρ' σd' G' σ' H' → D.nx σ' H'
  | .ret d G' => ∀ ρ' H' v, Ext ρ H ρ' H' → RS K mg ρ' G' H' → RD K ρ' H' d v → D.rt v H'
  | .brk σd' G' => ∀ ρ' H' σ', Ext ρ H ρ' H' → Ct K mg ρ' σd' G' σ' H' → D.bk σ' H'
  | .cont σd' G' => ∀ ρ' H' σ', Ext ρ H ρ' H' → Ct K mg ρ' σd' G' σ' H' → D.ct σ' H'
  | .exc c fs σd' G' => ∀ ρ' H' σ' C od, Ext ρ H ρ' H' → Ct K mg ρ' σd' G' σ' H' → mg c = some (.ref C) → RX K ρ' H' od fs → W (.ref C) od σ' H'
  | .bad => False
def tS (K : PySem.W.Frag) (mg : MG) (W : WX) (r : DS) : TS := fun D σ H => ∃ ρ σd G, Ct K mg ρ σd G σ H ∧ SPst K mg W ρ H (r σd G) D

section
variable {K : PySem.W.Frag} {mg : MG} {W : XK} {ρ : List Addr} {H : Hp}
theorem EP'.mono {α β : Type} {R : List Addr → Hp → α → β → Prop} {r : RE α} {Q Q' : β → Hp → Prop} (h : EP' K mg R W ρ H r Q) (k : ∀ ρ' H' G' a v, Ext ρ H ρ' H' → RS K mg ρ' G' H' → R ρ' H' a v → r = .ok a G' → Q v H' → Q' v H') : EP' K mg R W ρ H r Q' := by
  cases r with
  | ok a G' => exact fun ρ' H' v e s d => k ρ' H' G' a v e s d rfl (h ρ' H' v e s d)
  | exc c fs G' => exact h
  | bad => exact h
theorem EP'.deeper {α β : Type} {R : List Addr → Hp → α → β → Prop} {r : RE α} {Q : β → Hp → Prop} {ρ1 : List Addr} {H1 : Hp} (e : Ext ρ H ρ1 H1) (h : EP' K mg R W ρ H r Q) : EP' K mg R W ρ1 H1 r Q := by
  cases r with
  | ok a G' => exact fun ρ' H' v f s d => h ρ' H' v (e.trans f) s d
  | exc c fs G' => exact fun ρ' H' C dx f s g x => h ρ' H' C dx (e.trans f) s g x
  | bad => exact h
/-- THE rule for two pieces in a row -/
theorem EP'.bind {α β α' β' : Type} {R : List Addr → Hp → α → β → Prop} {R' : List Addr → Hp → α' → β' → Prop} {r : RE α} {f : α → GS → RE α'} {Q : β' → Hp → Prop} (h : EP' K mg R' W ρ H (bindE r f) Q) :
    EP' K mg R W ρ H r (fun v H1 => ∃ ρ1 G1 a, Ext ρ H ρ1 H1 ∧ RS K mg ρ1 G1 H1 ∧ R ρ1 H1 a v ∧ r = .ok a G1 ∧ EP' K mg R' W ρ1 H1 (f a G1) Q) := by
  cases r with
  | ok a G' => exact fun ρ' H' v e s d => ⟨ρ', G', a, e, s, d, rfl, EP'.deeper e h⟩
  | exc c fs G' => exact h
  | bad => exact h
end

section
variable {X : Cx} {W : WX}
theorem _root_.L2.PE.le {e : Expr} {t t' : TE} (h : PE X e t) (k : ∀ σ H Q, t' σ H Q → t σ H Q) : PE X e t' := ⟨fun pins s σ H Q I q => h.run pins s σ H Q I (k σ H Q q)⟩
theorem _root_.L2.PT.le {e : Expr} {t t' : TT} (h : PT X e t) (k : ∀ σ H Q, t' σ H Q → t σ H Q) : PT X e t' := ⟨fun pins s σ H Q I q => h.run pins s σ H Q I (k σ H Q q)⟩
theorem _root_.L2.PW.le {e : Expr} {t t' : TT} (h : PW X e t) (k : ∀ σ H Q, t' σ H Q → t σ H Q) : PW X e t' := ⟨fun wh pins s σ H Q I q => h.run wh pins s σ H Q I (k σ H Q q)⟩
theorem _root_.L2.PA.le {es : List Expr} {t t' : TA} (h : PA X es t) (k : ∀ σ H Q, t' σ H Q → t σ H Q) : PA X es t' := ⟨fun pos pins s σ H Q I q => h.run pos pins s σ H Q I (k σ H Q q)⟩
theorem _root_.L2.PS.le {st : Stmt} {t t' : TS} (h : PS X st t) (k : ∀ D σ H, t' D σ H → t D σ H) : PS X st t' := ⟨fun pins s σ H D I q => h.run pins s σ H D I (k D σ H q)⟩
theorem _root_.L2.PSs.le {st : List Stmt} {t t' : TS} (h : PSs X st t) (k : ∀ D σ H, t' D σ H → t D σ H) : PSs X st t' := ⟨fun pins s σ H D I q => h.run pins s σ H D I (k D σ H q)⟩

abbrev PEd (X : Cx) (W : WX) (e : Expr) (r : DE) : Prop := PE X e (tE X.K X.mg W r)
abbrev PAd (X : Cx) (W : WX) (es : List Expr) (r : DA) : Prop := PA X es (tA X.K X.mg W r)
abbrev PTd (X : Cx) (W : WX) (e : Expr) (r : DT) : Prop := PT X e (tT X.K X.mg W r)
abbrev PWd (X : Cx) (W : WX) (e : Expr) (r : DT) : Prop := PW X e (tT X.K X.mg W r)
abbrev PSd (X : Cx) (W : WX) (s : Stmt) (r : DS) : Prop := PS X s (tS X.K X.mg W r)
abbrev PSsd (X : Cx) (W : WX) (s : List Stmt) (r : DS) : Prop := PSs X s (tS X.K X.mg W r)

/-! ## names and constants -/
def eVar (i : Nat) : DE := fun σ G => match σ[i]? with
  | some (some d) => .ok d G
  | _ => .bad
def eCst (d : D) : DE := fun _ G => .ok d G
theorem le_var (i : Nat) {x : Str} {pos : Pos} (hN : X.N[i]? = some x := by rfl) (hv : Vis X.env.scope x := by first | exact Or.inl rfl | exact Or.inr (Or.inl rfl) | exact Or.inr (Or.inr rfl)) (hd : (x == ("__debug__" : Str)) = false := by decide)
    (hcd : (x == ("__classdict__" : Str)) = false := by decide) : PEd X W (.Name x pos) (eVar i) := by
  refine (pe_var hN hv hd hcd).le fun σ H Q ⟨ρ, σd, G, c, h⟩ => ?_
  unfold eVar at h
  cases q : σd[i]? with
  | none => rw [q] at h; exact h.elim
  | some o =>
    cases o with
    | none => rw [q] at h; exact h.elim
    | some d =>
      rw [q] at h
      obtain ⟨v, h1, h2⟩ := c.at_ i d q
      exact ⟨v, h1, h ρ H v (.refl _ _) c.rs h2⟩
theorem le_cst {e : Expr} {v : V} {d : D} (h : PE X e (tC v)) (r : ∀ ρ H, RD X.K ρ H d v) : PEd X W e (eCst d) :=
  h.le fun σ H Q ⟨ρ, σd, G, c, q⟩ => q ρ H v (.refl _ _) c.rs (r ρ H)
theorem le_int {i : Int} {j pos} : PEd X W (.Constant (.int i) j pos) (eCst (.int i)) := le_cst pe_int fun _ _ => rfl
theorem le_bl {b j pos} : PEd X W (.Constant (.bool b) j pos) (eCst (.bl b)) := le_cst pe_bl fun _ _ => rfl
theorem le_non {j pos} : PEd X W (.Constant .none j pos) (eCst .non) := le_cst pe_non fun _ _ => rfl
theorem le_str {s : List Nat} {x : Str} {j pos} (h : x = S s := by rfl) : PEd X W (.Constant (.str x) j pos) (eCst (.str s)) := le_cst pe_str fun _ _ => by rw [h]; rfl
theorem le_gint {x : Str} {i : Int} {t : Tok} {pos : Pos} (hg : Gl X x) (hm : X.mg x = some (.int i t)) (hd : (x == ("__debug__" : Str)) = false := by decide) : PEd X W (.Name x pos) (eCst (.int i)) :=
  le_cst (pe_glob hg hm (v := .int i) ⟨t, rfl⟩ hd) fun _ _ => rfl
theorem le_gstr {x y : Str} {s : List Nat} {t : Tok} {pos : Pos} (hg : Gl X x) (hm : X.mg x = some (.str y t)) (h : y = S s := by rfl) (hd : (x == ("__debug__" : Str)) = false := by decide) : PEd X W (.Name x pos) (eCst (.str s)) :=
  le_cst (pe_glob hg hm (v := .str y) ⟨t, rfl⟩ hd) fun _ _ => by rw [h]; rfl

/-! ## operators -/
def eBin (f : D → D → GS → RE D) (a b : DE) : DE := fun σ G => bindE (a σ G) fun x G1 => bindE (b σ G1) fun y G2 => f x y G2
def eUn (f : D → GS → RE D) (a : DE) : DE := fun σ G => bindE (a σ G) fun x G1 => f x G1
/-- a V-level operation serves a D-level one -/
def Srv2 (X : Cx) (r : R2) (f : D → D → GS → RE D) : Prop := ∀ (W : XK) ρ G H x y dx dy Q, RS X.K X.mg ρ G H → RD X.K ρ H dx x → RD X.K ρ H dy y → EPD X.K X.mg W ρ H (f dx dy G) Q → r x y H Q
def SrvC (X : Cx) (r : List V → Hp → VK → Prop) (f : List D → GS → RE D) : Prop := ∀ (W : XK) ρ G H xs dxs Q, RS X.K X.mg ρ G H → RDs X.K ρ H dxs xs → EPD X.K X.mg W ρ H (f dxs G) Q → r xs H Q
theorem tOp_le {r : R2} {f : D → D → GS → RE D} {da db : DE} (hf : Srv2 X r f) (σ : St) (H : Hp) (Q : VK) (h : tE X.K X.mg W (eBin f da db) σ H Q) : tOp r (tE X.K X.mg W da) (tE X.K X.mg W db) σ H Q := by
  obtain ⟨ρ, σd, G, c, h⟩ := h
  refine ⟨ρ, σd, G, c, (EP'.bind h).mono fun ρ1 H1 G1 a v e1 s1 d1 _ ⟨ρ2, G2, a2, e2, s2, d2, _, h2⟩ => ?_⟩
  refine ⟨ρ2, σd, G2, c.ext e2 s2, (EP'.bind h2).mono fun ρ3 H3 G3 a3 v3 _ _ _ _ ⟨ρ4, G4, a4, e4, s4, d4, _, h4⟩ => ?_⟩
  exact hf _ ρ4 G4 H3 v v3 a2 a4 Q s4 (d2.ext e4) d4 h4
theorem le_op {op : Operator} {r : R2} {f : D → D → GS → RE D} {a b : Expr} {da db : DE} {pos : Pos} (ho : OpR X (binaryOp op) r) (hf : Srv2 X r f) (ha : PEd X W a da) (hb : PEd X W b db) : PEd X W (.BinOp a op b pos) (eBin f da db) :=
  (pe_op ho ha hb).le fun σ H Q h => tOp_le hf σ H Q h
theorem le_cmp {op : CmpOp} {r : R2} {f : D → D → GS → RE D} {a b : Expr} {da db : DE} {pos : Pos} (ho : OpR X (compareOp op) r) (hf : Srv2 X r f) (ha : PEd X W a da) (hb : PEd X W b db) (hm : behindInMarks op b = false) : PEd X W (.Compare a [op] [b] pos) (eBin f da db) :=
  (pe_cmpR ho ha hb hm).le fun σ H Q h => tOp_le hf σ H Q h
theorem le_ix {r : R2} {f : D → D → GS → RE D} {a b : Expr} {da db : DE} {pos : Pos} (ho : IxR X r) (hf : Srv2 X r f) (ha : PEd X W a da) (hb : PEd X W b db) (hs : PlainIx b) : PEd X W (.Subscript a b pos) (eBin f da db) :=
  (pe_ix ho ha hb hs).le fun σ H Q h => tOp_le hf σ H Q h

/-! ## tests -/
def truth (d : D) (G : GS) : RE Bool := match d with
  | .bl b => .ok b G
  | _ => .bad
def dT (e : DE) : DT := fun σ G => bindE (e σ G) truth
def ofT (e : DT) : DE := fun σ G => bindE (e σ G) fun b G1 => .ok (.bl b) G1
theorem le_test {e : Expr} {d : DE} (h : PEd X W e d) (he : ∀ whole, isTrue e X.env whole = (do let v ← whole; standAt e.pos; holding [v] (truthy v)) := by intro _; rfl) : PTd X W e (dT d) := by
  refine (pt_val h he).le fun σ H Q ⟨ρ, σd, G, c, q⟩ => ?_
  refine ⟨ρ, σd, G, c, (EP'.bind q).mono fun ρ1 H1 G1 a v e1 s1 d1 _ ⟨ρ2, G2, a2, e2, s2, d2, _, h2⟩ => ?_⟩
  cases a2 with
  | bl b => exact ⟨b, d2, h2 ρ2 H1 b (.refl _ _) s2 rfl⟩
  | _ => exact h2.elim
theorem le_tcmp {op : CmpOp} {r : R2} {f : D → D → GS → RE D} {a b : Expr} {da db : DE} {pos : Pos} (ho : OpR X (compareOp op) r) (hf : Srv2 X r f) (ha : PEd X W a da) (hb : PEd X W b db) (hm : behindInMarks op b = false) : PTd X W (.Compare a [op] [b] pos) (dT (eBin f da db)) := by
  refine (pt_cmpR ho ha hb hm).le fun σ H Q h => ?_
  have key : tE X.K X.mg W (eBin f da db) σ H (fun x H' => ∃ k, x = .bl k ∧ Q k H') := by
    obtain ⟨ρ, σd, G, c, q⟩ := h
    refine ⟨ρ, σd, G, c, (EP'.bind q).mono fun ρ1 H1 G1 a v e1 s1 d1 _ ⟨ρ2, G2, a2, e2, s2, d2, _, h2⟩ => ?_⟩
    cases a2 with
    | bl b => exact ⟨b, d2, h2 ρ2 H1 b (.refl _ _) s2 rfl⟩
    | _ => exact h2.elim
  exact tOp_le hf σ H _ key
def dAnd (a b : DT) : DT := fun σ G => bindE (a σ G) fun x G1 => if x = true then b σ G1 else .ok false G1
def dOr (a b : DT) : DT := fun σ G => bindE (a σ G) fun x G1 => if x = true then .ok true G1 else b σ G1
def dNot (a : DT) : DT := fun σ G => bindE (a σ G) fun x G1 => .ok (!x) G1
theorem le_and {a b : Expr} {rest : List Expr} {da db : DT} {pos : Pos} (ha : PTd X W a da) (hb : PWd X W (.BoolOp .And (b :: rest) pos) db) : PWd X W (.BoolOp .And (a :: b :: rest) pos) (dAnd da db) := by
  refine (pw_and ha hb).le fun σ H Q ⟨ρ, σd, G, c, q⟩ => ?_
  refine ⟨ρ, σd, G, c, (EP'.bind q).mono fun ρ1 H1 G1 a v e1 s1 d1 _ ⟨ρ2, G2, a2, e2, s2, d2, _, h2⟩ => ?_⟩
  subst d2
  cases a2 with
  | true => exact ⟨ρ2, σd, G2, c.ext e2 s2, h2⟩
  | false => exact h2 ρ2 H1 false (.refl _ _) s2 rfl
theorem le_or {a b : Expr} {rest : List Expr} {da db : DT} {pos : Pos} (ha : PTd X W a da) (hb : PWd X W (.BoolOp .Or (b :: rest) pos) db) : PWd X W (.BoolOp .Or (a :: b :: rest) pos) (dOr da db) := by
  refine (pw_or ha hb).le fun σ H Q ⟨ρ, σd, G, c, q⟩ => ?_
  refine ⟨ρ, σd, G, c, (EP'.bind q).mono fun ρ1 H1 G1 a v e1 s1 d1 _ ⟨ρ2, G2, a2, e2, s2, d2, _, h2⟩ => ?_⟩
  subst d2
  cases a2 with
  | false => exact ⟨ρ2, σd, G2, c.ext e2 s2, h2⟩
  | true => exact h2 ρ2 H1 true (.refl _ _) s2 rfl
theorem le_and1 {a : Expr} {da : DT} {pos : Pos} (ha : PTd X W a da) : PWd X W (.BoolOp .And [a] pos) da := pw_and1 ha
theorem le_or1 {a : Expr} {da : DT} {pos : Pos} (ha : PTd X W a da) : PWd X W (.BoolOp .Or [a] pos) da := pw_or1 ha
theorem le_not {a : Expr} {da : DT} {pos : Pos} (ha : PTd X W a da) : PTd X W (.UnaryOp .Not a pos) (dNot da) := by
  refine (pt_not ha).le fun σ H Q ⟨ρ, σd, G, c, q⟩ => ?_
  refine ⟨ρ, σd, G, c, (EP'.bind q).mono fun ρ1 H1 G1 a v e1 s1 d1 _ ⟨ρ2, G2, a2, e2, s2, d2, _, h2⟩ => ?_⟩
  subst d2
  exact h2 ρ2 H1 _ (.refl _ _) s2 rfl
/-- and, or, not as values of truth -/
def eAnd (a b : DE) : DE := fun σ G => bindE (bindE (a σ G) truth) fun x G1 => if x = true then b σ G1 else .ok (.bl false) G1
def eOr (a b : DE) : DE := fun σ G => bindE (bindE (a σ G) truth) fun x G1 => if x = true then .ok (.bl true) G1 else b σ G1
def eNot (a : DE) : DE := fun σ G => bindE (bindE (a σ G) truth) fun x G1 => .ok (.bl (!x)) G1
theorem truth_ok {K : PySem.W.Frag} {mg : MG} {W : XK} {ρ : List Addr} {H : Hp} {r : RE D} {α β : Type} {R : List Addr → Hp → α → β → Prop} {f : Bool → GS → RE α} {Q : β → Hp → Prop}
    (h : EP' K mg R W ρ H (bindE (bindE r truth) f) Q) : EPD K mg W ρ H r (fun v H1 => ∃ b ρ1 G1, v = .bl b ∧ Ext ρ H ρ1 H1 ∧ RS K mg ρ1 G1 H1 ∧ EP' K mg R W ρ1 H1 (f b G1) Q) := by
  cases r with
  | bad => exact h
  | exc c fs G' => exact h
  | ok a G' =>
    cases a with
    | bl b => exact fun ρ' H' v e s d => ⟨b, ρ', G', d, e, s, EP'.deeper e h⟩
    | _ => exact h.elim
theorem le_andV {a b : Expr} {rest : List Expr} {da db : DE} {pos : Pos} (ha : PEd X W a da) (hb : PEd X W (.BoolOp .And (b :: rest) pos) db) : PEd X W (.BoolOp .And (a :: b :: rest) pos) (eAnd da db) := by
  refine (pe_and ha hb).le fun σ H Q ⟨ρ, σd, G, c, q⟩ => ?_
  refine ⟨ρ, σd, G, c, (truth_ok q).mono fun ρ1 H1 G1 a v e1 s1 d1 _ ⟨k, ρ2, G2, ev, e2, s2, h2⟩ => ?_⟩
  subst ev
  refine ⟨k, rfl, ?_⟩
  cases k with
  | true => exact ⟨ρ2, σd, G2, c.ext e2 s2, h2⟩
  | false => exact h2 ρ2 H1 _ (.refl _ _) s2 rfl
theorem le_orV {a b : Expr} {rest : List Expr} {da db : DE} {pos : Pos} (ha : PEd X W a da) (hb : PEd X W (.BoolOp .Or (b :: rest) pos) db) : PEd X W (.BoolOp .Or (a :: b :: rest) pos) (eOr da db) := by
  refine (pe_or ha hb).le fun σ H Q ⟨ρ, σd, G, c, q⟩ => ?_
  refine ⟨ρ, σd, G, c, (truth_ok q).mono fun ρ1 H1 G1 a v e1 s1 d1 _ ⟨k, ρ2, G2, ev, e2, s2, h2⟩ => ?_⟩
  subst ev
  refine ⟨k, rfl, ?_⟩
  cases k with
  | false => exact ⟨ρ2, σd, G2, c.ext e2 s2, h2⟩
  | true => exact h2 ρ2 H1 _ (.refl _ _) s2 rfl
theorem le_oneV {op : BoolOp} {a : Expr} {da : DE} {pos : Pos} (ha : PEd X W a da) : PEd X W (.BoolOp op [a] pos) da := pe_one ha
theorem le_notV {a : Expr} {da : DE} {pos : Pos} (ha : PEd X W a da) : PEd X W (.UnaryOp .Not a pos) (eNot da) := by
  refine (pe_not ha).le fun σ H Q ⟨ρ, σd, G, c, q⟩ => ?_
  refine ⟨ρ, σd, G, c, (truth_ok q).mono fun ρ1 H1 G1 a v e1 s1 d1 _ ⟨k, ρ2, G2, ev, e2, s2, h2⟩ => ?_⟩
  subst ev
  exact ⟨k, rfl, h2 ρ2 H1 _ (.refl _ _) s2 rfl⟩
def eIf (c : DT) (a b : DE) : DE := fun σ G => bindE (c σ G) fun x G1 => if x = true then a σ G1 else b σ G1
theorem le_ifx {t a b : Expr} {dt : DT} {da db : DE} {pos : Pos} (ht : PTd X W t dt) (ha : PEd X W a da) (hb : PEd X W b db) : PEd X W (.IfExp t a b pos) (eIf dt da db) := by
  refine (pe_ifExp ht ha hb).le fun σ H Q ⟨ρ, σd, G, c, q⟩ => ?_
  refine ⟨ρ, σd, G, c, (EP'.bind q).mono fun ρ1 H1 G1 a v e1 s1 d1 _ ⟨ρ2, G2, a2, e2, s2, d2, _, h2⟩ => ?_⟩
  subst d2
  cases a2 with
  | true => exact ⟨ρ2, σd, G2, c.ext e2 s2, h2⟩
  | false => exact ⟨ρ2, σd, G2, c.ext e2 s2, h2⟩

/-! ## arguments, displays -/
def aNil : DA := fun _ G => .ok [] G
def aCons (e : DE) (r : DA) : DA := fun σ G => bindE (e σ G) fun x G1 => bindE (r σ G1) fun xs G2 => .ok (x :: xs) G2
theorem le_anil : PAd X W [] aNil := pa_nil.le fun σ H Q ⟨ρ, σd, G, c, q⟩ => q ρ H [] (.refl _ _) c.rs rfl
theorem le_acons {e : Expr} {es : List Expr} {d : DE} {r : DA} (he : PEd X W e d) (hr : PAd X W es r) (hs : starEach (e :: es) X.env = (false, eval e X.env) :: starEach es X.env := by rfl) : PAd X W (e :: es) (aCons d r) := by
  refine (pa_cons he hr hs).le fun σ H Q ⟨ρ, σd, G, c, q⟩ => ?_
  refine ⟨ρ, σd, G, c, (EP'.bind q).mono fun ρ1 H1 G1 a v e1 s1 d1 _ ⟨ρ2, G2, a2, e2, s2, d2, _, h2⟩ => ?_⟩
  refine ⟨ρ2, σd, G2, c.ext e2 s2, (EP'.bind h2).mono fun ρ3 H3 G3 a3 v3 _ _ _ _ ⟨ρ4, G4, a4, e4, s4, d4, _, h4⟩ => ?_⟩
  exact h4 ρ4 H3 _ (.refl _ _) s4 ⟨v, v3, rfl, d2.ext e4, d4⟩
def maxLine : Nat := 16777216
theorem maxLine_eq : maxLine = sizeLine := sizeLine_eq.symm
def eTup (a : DA) : DE := fun σ G => bindE (a σ G) fun xs G1 => if xs.length ≤ maxLine then .ok (.tup xs) G1 else .bad
/-- a list that is not changed -/
def eLst (a : DA) : DE := fun σ G => bindE (a σ G) fun xs G1 => if xs.length ≤ maxLine then .ok (.lst xs) G1 else .bad
/-- a list that may be changed -/
def eNew (a : DA) : DE := fun σ G => bindE (a σ G) fun xs G1 => if xs.length ≤ maxLine then .ok (.ref G1.length) (G1 ++ [.lst xs]) else .bad
section
variable {es : List Expr} {r : DA} {pos : Pos}
theorem le_tup {x1} (h : PAd X W es r) : PEd X W (.Tuple es x1 pos) (eTup r) := by
  refine (pe_tup h).le fun σ H Q ⟨ρ, σd, G, c, q⟩ => ?_
  refine ⟨ρ, σd, G, c, (EP'.bind q).mono fun ρ1 H1 G1 a v e1 s1 d1 _ ⟨ρ2, G2, a2, e2, s2, d2, _, h2⟩ => ?_⟩
  by_cases hl : a2.length ≤ maxLine
  · rw [if_pos hl] at h2
    refine ⟨by rw [← d2.length, ← maxLine_eq]; exact hl, fun p hp => ?_⟩
    obtain ⟨e, s⟩ := s2.lay (.tup v) hp
    exact h2 ρ2 _ _ e s ⟨p, v, rfl, .inl ⟨.inl upd_same, s2.fresh hp⟩, d2.ext e⟩
  · rw [if_neg hl] at h2; exact h2.elim
theorem le_lst (h : PAd X W es r) : PEd X W (.List es pos) (eLst r) := by
  refine (pe_lst h).le fun σ H Q ⟨ρ, σd, G, c, q⟩ => ?_
  refine ⟨ρ, σd, G, c, (EP'.bind q).mono fun ρ1 H1 G1 a v e1 s1 d1 _ ⟨ρ2, G2, a2, e2, s2, d2, _, h2⟩ => ?_⟩
  by_cases hl : a2.length ≤ maxLine
  · rw [if_pos hl] at h2
    refine ⟨by rw [← d2.length, ← maxLine_eq]; exact hl, fun p hp => ?_⟩
    obtain ⟨e, s⟩ := s2.lay (.lst v) hp
    exact h2 ρ2 _ _ e s ⟨p, v, rfl, ⟨upd_same, s2.fresh hp⟩, d2.ext e⟩
  · rw [if_neg hl] at h2; exact h2.elim
/-- a new list in the store -/
theorem new_lst {K : PySem.W.Frag} {mg : MG} {W : XK} {ρ : List Addr} {G : GS} {H : Hp} {xs : List D} {v : List V} {Q : VK} (s : RS K mg ρ G H) (d : RDs K ρ H xs v) (h : EPD K mg W ρ H (.ok (.ref G.length) (G ++ [.lst xs])) Q) {p : Addr} (hp : H p = none) : Q (.ref p) (upd H p (.lst v)) := by
  obtain ⟨e, s'⟩ := s.push (o := .lst v) (ob := .lst xs) hp fun e => ⟨v, upd_same, d.ext e⟩
  exact h _ _ _ e s' ⟨p, by rw [← s.len, List.getElem?_append_right (Nat.le_refl _)]; simp, rfl⟩
theorem le_new (h : PAd X W es r) : PEd X W (.List es pos) (eNew r) := by
  refine (pe_lst h).le fun σ H Q ⟨ρ, σd, G, c, q⟩ => ?_
  refine ⟨ρ, σd, G, c, (EP'.bind q).mono fun ρ1 H1 G1 a v e1 s1 d1 _ ⟨ρ2, G2, a2, e2, s2, d2, _, h2⟩ => ?_⟩
  by_cases hl : a2.length ≤ maxLine
  · rw [if_pos hl] at h2
    exact ⟨by rw [← d2.length, ← maxLine_eq]; exact hl, fun p hp => new_lst s2 d2 h2 hp⟩
  · rw [if_neg hl] at h2; exact h2.elim
end
/-! ## calls of built-in things -/
def eApp (f : List D → GS → RE D) (a : DA) : DE := fun σ G => bindE (a σ G) fun xs G1 => f xs G1
theorem tCB_le {r : List V → Hp → VK → Prop} {f : List D → GS → RE D} {da : DA} (hf : SrvC X r f) (σ : St) (H : Hp) (Q : VK) (h : tE X.K X.mg W (eApp f da) σ H Q) : tCB r (tA X.K X.mg W da) σ H Q := by
  obtain ⟨ρ, σd, G, c, h⟩ := h
  refine ⟨ρ, σd, G, c, (EP'.bind h).mono fun ρ1 H1 G1 a v e1 s1 d1 _ ⟨ρ2, G2, a2, e2, s2, d2, _, h2⟩ => ?_⟩
  exact hf _ ρ2 G2 H1 v a2 Q s2 d2 h2
section
variable {x : Str} {p pos : Pos} {e : Expr} {es : List Expr} {da : DA} {id T : String} {r : List V → Hp → VK → Prop} {f : List D → GS → RE D}
theorem le_callB (hc : CallR X (.builtin id) r) (hf : SrvC X r f) (hg : Gl X x) (hm : X.mg x = none) (hv : bootBuiltins x = some (.builtin id)) (ha : PAd X W (e :: es) da) (hn : x ≠ "__name__" := by decide) (hdb : (x == ("__debug__" : Str)) = false := by decide)
    (he : starEach (e :: es) X.env = (false, eval e X.env) :: starEach es X.env := by rfl) (hpl : (backTo pos (starEach es X.env)).any (·.1) = false := by rfl) : PEd X W (.Call (.Name x p) (e :: es) [] pos) (eApp f da) :=
  (pe_callB hc hg hm hv ha hn hdb he hpl).le fun σ H Q h => tCB_le hf σ H Q h
theorem le_callTy (hc : CallR X (.type T) r) (hf : SrvC X r f) (hg : Gl X x) (hm : X.mg x = none) (hv : bootBuiltins x = some (.type T)) (ha : PAd X W (e :: es) da) (hn : x ≠ "__name__" := by decide) (hdb : (x == ("__debug__" : Str)) = false := by decide)
    (he : starEach (e :: es) X.env = (false, eval e X.env) :: starEach es X.env := by rfl) (hpl : (backTo pos (starEach es X.env)).any (·.1) = false := by rfl) : PEd X W (.Call (.Name x p) (e :: es) [] pos) (eApp f da) :=
  (pe_callTy hc hg hm hv ha hn hdb he hpl).le fun σ H Q h => tCB_le hf σ H Q h
end
end
end Dl
namespace Dl
open PySem L2

/-! ## statements -/
def seqR (r : RSt) (b : DS) : RSt := match r with
  | .nx σ G => b σ G
  | r => r
@[simp] theorem seqR_nx (σ G) (b : DS) : seqR (.nx σ G) b = b σ G := rfl
@[simp] theorem seqR_ret (d G) (b : DS) : seqR (.ret d G) b = .ret d G := rfl
@[simp] theorem seqR_brk (σ G) (b : DS) : seqR (.brk σ G) b = .brk σ G := rfl
@[simp] theorem seqR_cont (σ G) (b : DS) : seqR (.cont σ G) b = .cont σ G := rfl
@[simp] theorem seqR_exc (c fs σ G) (b : DS) : seqR (.exc c fs σ G) b = .exc c fs σ G := rfl
@[simp] theorem seqR_bad (b : DS) : seqR .bad b = .bad := rfl
/-- behind a turn of a loop -/
def turnR (r : RSt) (go : DS) : RSt := match r with
  | .nx σ G => go σ G
  | .cont σ G => go σ G
  | .brk σ G => .nx σ G
  | .ret d G => .ret d G
  | .exc c fs σ G => .exc c fs σ G
  | .bad => .bad
@[simp] theorem turnR_nx (σ G) (b : DS) : turnR (.nx σ G) b = b σ G := rfl
@[simp] theorem turnR_ret (d G) (b : DS) : turnR (.ret d G) b = .ret d G := rfl
@[simp] theorem turnR_brk (σ G) (b : DS) : turnR (.brk σ G) b = .nx σ G := rfl
@[simp] theorem turnR_cont (σ G) (b : DS) : turnR (.cont σ G) b = b σ G := rfl
@[simp] theorem turnR_exc (c fs σ G) (b : DS) : turnR (.exc c fs σ G) b = .exc c fs σ G := rfl
@[simp] theorem turnR_bad (b : DS) : turnR .bad b = .bad := rfl

def sNil : DS := fun σ G => .nx σ G
def sSeq (a b : DS) : DS := fun σ G => seqR (a σ G) b
def sAsg (i : Nat) (e : DE) : DS := fun σ G => bindS (e σ G) σ fun d G1 => .nx (σ.set i (some d)) G1
def sExp (e : DE) : DS := fun σ G => bindS (e σ G) σ fun _ G1 => .nx σ G1
def sRet (e : DE) : DS := fun σ G => bindS (e σ G) σ fun d G1 => .ret d G1
def sRetN : DS := fun _ G => .ret .non G
def sBrk : DS := fun σ G => .brk σ G
def sCont : DS := fun σ G => .cont σ G
def sIf (c : DT) (a b : DS) : DS := fun σ G => bindS (c σ G) σ fun k G1 => if k = true then a σ G1 else b σ G1
def sWhile (n : Nat) (c : DT) (b : DS) : DS := match n with
  | 0 => fun _ _ => .bad
  | n + 1 => fun σ G => bindS (c σ G) σ fun k G1 => if k = true then turnR (b σ G1) (sWhile n c b) else .nx σ G1

section
variable {K : PySem.W.Frag} {mg : MG} {W : WX} {ρ : List Addr} {H : Hp}
theorem SPst.deeper {r : RSt} {Dn : Ends} {ρ1 : List Addr} {H1 : Hp} (e : Ext ρ H ρ1 H1) (h : SPst K mg W ρ H r Dn) : SPst K mg W ρ1 H1 r Dn := by
  cases r with
  | nx σ G => exact fun ρ' H' σ' f c => h ρ' H' σ' (e.trans f) c
  | ret d G => exact fun ρ' H' v f s r => h ρ' H' v (e.trans f) s r
  | brk σ G => exact fun ρ' H' σ' f c => h ρ' H' σ' (e.trans f) c
  | cont σ G => exact fun ρ' H' σ' f c => h ρ' H' σ' (e.trans f) c
  | exc c fs σ G => exact fun ρ' H' σ' C dx f c g x => h ρ' H' σ' C dx (e.trans f) c g x
  | bad => exact h
theorem SPst.bind {α β : Type} {R : List Addr → Hp → α → β → Prop} {r : RE α} {σd : PEnv} {G : GS} {σ : St} {f : α → GS → RSt} {Dn : Ends} (c : Ct K mg ρ σd G σ H) (h : SPst K mg W ρ H (bindS r σd f) Dn) :
    EP' K mg R (WA W σ) ρ H r (fun v H1 => ∃ ρ1 G1 a, Ext ρ H ρ1 H1 ∧ Ct K mg ρ1 σd G1 σ H1 ∧ R ρ1 H1 a v ∧ SPst K mg W ρ1 H1 (f a G1) Dn) := by
  cases r with
  | ok a G' => exact fun ρ' H' v e s d => ⟨ρ', G', a, e, c.ext e s, d, SPst.deeper e h⟩
  | exc cc fs G' => exact fun ρ' H' C dx e s g x => h ρ' H' σ C dx e (c.ext e s) g x
  | bad => exact h
theorem SPst.seq {r : RSt} {b : DS} {Dn : Ends} (h : SPst K mg W ρ H (seqR r b) Dn) : SPst K mg W ρ H r { Dn with nx := tS K mg W b Dn } := by
  cases r with
  | nx σ G => exact fun ρ' H' σ' e c => ⟨ρ', σ, G, c, SPst.deeper e h⟩
  | ret d G => exact h
  | brk σ G => exact h
  | cont σ G => exact h
  | exc c fs σ G => exact h
  | bad => exact h
theorem SPst.turn {r : RSt} {b : DS} {Dn : Ends} (h : SPst K mg W ρ H (turnR r b) Dn) : SPst K mg W ρ H r { Dn with nx := tS K mg W b Dn, ct := tS K mg W b Dn, bk := Dn.nx } := by
  cases r with
  | nx σ G => exact fun ρ' H' σ' e c => ⟨ρ', σ, G, c, SPst.deeper e h⟩
  | ret d G => exact h
  | brk σ G => exact h
  | cont σ G => exact fun ρ' H' σ' e c => ⟨ρ', σ, G, c, SPst.deeper e h⟩
  | exc c fs σ G => exact h
  | bad => exact h
end

section
variable {X : Cx} {W : WX} {st : Stmt} {rest : List Stmt} {e c : Expr} {pos : Pos}
theorem le_nil : PSsd X W [] sNil := pss_nil.le fun Dn σ H ⟨ρ, σd, G, c, h⟩ => h ρ H σ (.refl _ _) c
theorem le_seq {a b : DS} (h1 : PSd X W st a) (h2 : PSsd X W rest b) : PSsd X W (st :: rest) (sSeq a b) :=
  (pss_cons h1 h2).le fun Dn σ H ⟨ρ, σd, G, c, h⟩ => ⟨ρ, σd, G, c, SPst.seq h⟩
theorem le_one {a : DS} (h1 : PSd X W st a) : PSsd X W [st] a := pss_one h1
theorem le_pass : PSd X W (.Pass pos) sNil := ps_pass.le fun Dn σ H ⟨ρ, σd, G, c, h⟩ => h ρ H σ (.refl _ _) c
theorem le_brk : PSd X W (.Break pos) sBrk := ps_break.le fun Dn σ H ⟨ρ, σd, G, c, h⟩ => h ρ H σ (.refl _ _) c
theorem le_cont : PSd X W (.Continue pos) sCont := ps_continue.le fun Dn σ H ⟨ρ, σd, G, c, h⟩ => h ρ H σ (.refl _ _) c
theorem le_doc {x j pos pos'} : PSd X W (.Expr (.Constant (.str x) j pos) pos') sNil := ps_doc.le fun Dn σ H ⟨ρ, σd, G, c, h⟩ => h ρ H σ (.refl _ _) c
theorem le_exp {d : DE} (he : PEd X W e d) (hs : swapsWith e none pos.line X.env = pure false := by rfl) : PSd X W (.Expr e pos) (sExp d) :=
  (ps_expr he hs).le fun Dn σ H ⟨ρ, σd, G, c, h⟩ => ⟨ρ, σd, G, c, (SPst.bind c h).mono fun _ _ _ _ _ _ _ _ _ ⟨ρ1, G1, a, e1, c1, d1, h1⟩ => h1 _ _ _ (.refl _ _) c1⟩
theorem le_ret {d : DE} (he : PEd X W e d) : PSd X W (.Return (some e) pos) (sRet d) :=
  (ps_ret he).le fun Dn σ H ⟨ρ, σd, G, c, h⟩ => ⟨ρ, σd, G, c, (SPst.bind c h).mono fun _ _ _ _ _ _ _ _ _ ⟨ρ1, G1, a, e1, c1, d1, h1⟩ => h1 _ _ _ (.refl _ _) c1.rs d1⟩
theorem le_retN : PSd X W (.Return none pos) sRetN := ps_retN.le fun Dn σ H ⟨ρ, σd, G, c, h⟩ => h ρ H _ (.refl _ _) c.rs rfl
theorem le_if {a b : List Stmt} {dc : DT} {da db : DS} (hc : PTd X W c dc) (ha : PSsd X W a da) (hb : PSsd X W b db) : PSd X W (.If c a b pos) (sIf dc da db) := by
  refine (ps_if hc ha hb).le fun Dn σ H ⟨ρ, σd, G, c, h⟩ => ⟨ρ, σd, G, c, (SPst.bind c h).mono fun _ _ _ _ _ _ _ _ _ ⟨ρ1, G1, a, e1, c1, d1, h1⟩ => ?_⟩
  subst d1
  cases a with
  | true => exact ⟨ρ1, σd, G1, c1, h1⟩
  | false => exact ⟨ρ1, σd, G1, c1, h1⟩
theorem le_while {body : List Stmt} {dc : DT} {db : DS} (n : Nat) (hp : PassesOwn (model X.prog X.w) X.A X.env X.xe) (hc : PTd X W c dc) (hb : PSsd X W body db) : PSd X W (.While c body [] pos) (sWhile n dc db) := by
  refine (ps_while hp hc hb).le fun Dn σ H h => ?_
  refine ⟨fun m σ H => tS X.K X.mg W (sWhile m dc db) Dn σ H, ⟨n, h⟩, ?_⟩
  rintro m σ H ⟨ρ, σd, G, c, h⟩
  cases m with
  | zero => exact h.elim
  | succ m =>
    refine ⟨ρ, σd, G, c, (SPst.bind c h).mono fun _ _ _ _ _ _ _ _ _ ⟨ρ1, G1, a, e1, c1, d1, h1⟩ => ?_⟩
    subst d1
    cases a with
    | false => exact h1 _ _ _ (.refl _ _) c1
    | true => exact ⟨tS X.K X.mg W (sWhile m dc db) Dn, fun σ' H' q => ⟨m, Nat.lt_succ_self m, q⟩, ρ1, σd, G1, c1, SPst.turn h1⟩

/-! ## targets -/
abbrev DG := D → PEnv → Option PEnv
def tG (K : PySem.W.Frag) (mg : MG) (g : DG) : TG := fun v σ H Q => ∃ ρ σd G d, Ct K mg ρ σd G σ H ∧ RD K ρ H d v ∧ (match g d σd with | some σd' => ∀ σ', Ct K mg ρ σd' G σ' H → Q σ' H | none => False)
abbrev PGd (X : Cx) (t : Expr) (g : DG) : Prop := PG X t (tG X.K X.mg g)
theorem _root_.L2.PG.le {e : Expr} {t t' : TG} (h : PG X e t) (k : ∀ v σ H Q, t' v σ H Q → t v σ H Q) : PG X e t' := ⟨fun pins s σ H v u Q I r q => h.run pins s σ H v u Q I r (k v σ H Q q)⟩
theorem _root_.L2.PGs.le {e : List Expr} {t t' : TGs} (h : PGs X e t) (k : ∀ v σ H Q, t' v σ H Q → t v σ H Q) : PGs X e t' := ⟨fun pins s σ H v u Q I r q => h.run pins s σ H v u Q I r (k v σ H Q q)⟩
def gN (i : Nat) : DG := fun d σ => some (σ.set i (some d))
abbrev DGs := List D → PEnv → Option PEnv
def gsNil : DGs := fun ds σ => match ds with | [] => some σ | _ => none
def gsCons (g : DG) (r : DGs) : DGs := fun ds σ => match ds with
  | d :: ds => match g d σ with
    | some σ1 => r ds σ1
    | none => none
  | [] => none
def gT (r : DGs) : DG := fun d σ => match d with | .tup ds => r ds σ | _ => none
def tGs (K : PySem.W.Frag) (mg : MG) (g : DGs) : TGs := fun vs σ H Q => ∃ ρ σd G ds, Ct K mg ρ σd G σ H ∧ RDs K ρ H ds vs ∧ (match g ds σd with | some σd' => ∀ σ', Ct K mg ρ σd' G σ' H → Q σ' H | none => False)
theorem le_gname {i : Nat} {x : Str} {pos : Pos} (nd : X.N.Nodup) (hN : X.N[i]? = some x := by rfl) (hl : Loc X.env.scope x := by first | exact Or.inl rfl | exact Or.inr rfl) (hf : X.fn x = true ∨ X.env.scope.names.lookup x = some .local := by first | exact .inl rfl | exact .inr rfl) : PGd X (.Name x pos) (gN i) :=
  (pg_name nd hN hl hf).le fun v σ H Q ⟨ρ, σd, G, d, c, r, h⟩ => h _ (c.set r)
abbrev PGsd (X : Cx) (ts : List Expr) (g : DGs) (n : Nat) : Prop := PGs X ts (tGs X.K X.mg g) ∧ ∀ ds σ σ', g ds σ = some σ' → ds.length = n
theorem le_gnil : PGsd X [] gsNil 0 := by
  refine ⟨pgs_nil.le fun vs σ H Q ⟨ρ, σd, G, ds, c, r, h⟩ => ?_, fun ds σ σ' h => ?_⟩
  · cases ds with
    | nil => cases (show _ = _ from r); exact ⟨rfl, h _ c⟩
    | cons d ds => exact h.elim
  · cases ds with
    | nil => rfl
    | cons d ds => cases h
theorem le_gcons {t : Expr} {ts : List Expr} {g : DG} {gs : DGs} {n : Nat} (h1 : PGd X t g) (h2 : PGsd X ts gs n) (hs : (assignEach (t :: ts) X.env).map (·.2) = assign t X.env :: (assignEach ts X.env).map (·.2) := by rfl) : PGsd X (t :: ts) (gsCons g gs) (n + 1) := by
  refine ⟨(pgs_cons h1 h2.1 hs).le fun vs σ H Q ⟨ρ, σd, G, ds, c, r, h⟩ => ?_, fun ds σ σ' h => ?_⟩
  · cases ds with
    | nil => exact h.elim
    | cons d ds =>
      obtain ⟨v, r', e, r1, r2⟩ := r
      subst e
      refine ⟨v, r', rfl, ρ, σd, G, d, c, r1, ?_⟩
      simp only [gsCons] at h
      cases q : g d σd with
      | none => simp only [q] at h
      | some σ1 =>
        simp only [q] at h
        exact fun σ' c' => ⟨ρ, σ1, G, ds, c', r2, h⟩
  · cases ds with
    | nil => cases h
    | cons d ds =>
      simp only [gsCons] at h
      cases q : g d σ with
      | none => simp only [q] at h; cases h
      | some σ1 => simp only [q] at h; rw [List.length_cons, h2.2 _ _ _ h]
theorem le_gtup {es : List Expr} {x1} {pos : Pos} {gs : DGs} {n : Nat} (hc : X.calm = true) (h : PGsd X es gs n) (hn : (assignEach es X.env).length = n := by rfl) (hst : (assignEach es X.env).findIdx? (·.1) = none := by rfl) : PGd X (.Tuple es x1 pos) (gT gs) := by
  refine (pg_tup hc h.1 hn hst).le fun v σ H Q ⟨ρ, σd, G, d, c, r, q⟩ => ?_
  cases d with
  | tup ds =>
    obtain ⟨a, vs, e, t, r⟩ := r
    refine ⟨a, vs, e, t.sq, ?_, ρ, σd, G, ds, c, r, q⟩
    simp only [gT] at q
    cases z : gs ds σd with
    | none => simp only [z] at q
    | some σ1 => rw [← r.length]; exact h.2 _ _ _ z
  | _ => exact q.elim
def asgR (g : DG) (d : D) (σ : PEnv) (G : GS) : RSt := match g d σ with | some σ' => .nx σ' G | none => .bad
def sAsgG (g : DG) (e : DE) : DS := fun σ G => bindS (e σ G) σ fun d G1 => asgR g d σ G1
theorem le_asgG {tg e : Expr} {g : DG} {d : DE} (he : PEd X W e d) (hg : PGd X tg g) (hs : swapsWithSole [tg] e pos.line X.env = pure false := by rfl) (hw : swappedStores [tg] e X.env = pure none := by rfl)
    (h1 : (assignEach [tg] X.env).map (·.2) = [assign tg X.env] := by rfl) : PSd X W (.Assign [tg] e pos) (sAsgG g d) := by
  refine (ps_asg he hg hs hw h1).le fun Dn σ H ⟨ρ, σd, G, c, h⟩ => ⟨ρ, σd, G, c, (SPst.bind c h).mono fun _ _ _ _ _ _ _ _ _ ⟨ρ1, G1, a, e1, c1, d1, h1⟩ => ?_⟩
  refine ⟨ρ1, σd, G1, a, c1, d1, ?_⟩
  unfold asgR at h1
  cases q : g a σd with
  | none => rw [q] at h1; exact h1.elim
  | some σ1 => rw [q] at h1; exact fun σ' c' => h1 _ _ _ (.refl _ _) c'
theorem le_set {i : Nat} {x : Str} {d : DE} {pos' : Pos} (nd : X.N.Nodup) (he : PEd X W e d) (hN : X.N[i]? = some x := by rfl) (hl : Loc X.env.scope x := by first | exact Or.inl rfl | exact Or.inr rfl) (hs : swapsWith e (some (.Name x pos')) pos.line X.env = pure false := by rfl) (hf : X.fn x = true ∨ X.env.scope.names.lookup x = some .local := by first | exact .inl rfl | exact .inr rfl) :
    PSd X W (.Assign [.Name x pos'] e pos) (sAsg i d) :=
  (ps_set nd hN hl he hs hf).le fun Dn σ H ⟨ρ, σd, G, c, h⟩ => ⟨ρ, σd, G, c, (SPst.bind c h).mono fun _ _ _ _ _ _ _ _ _ ⟨ρ1, G1, a, e1, c1, d1, h1⟩ => h1 _ _ _ (.refl _ _) (c1.set d1)⟩
/-- x op= e -/
def sAug (i : Nat) (f : D → D → GS → RE D) (e : DE) : DS := fun σ G => bindS (eVar i σ G) σ fun x _ => bindS (e σ G) σ fun y G1 => bindS (f x y G1) σ fun z G2 => .nx (σ.set i (some z)) G2
theorem le_aug {i : Nat} {x : Str} {d : DE} {pos' : Pos} {op : Operator} {r : R2} {f : D → D → GS → RE D} (nd : X.N.Nodup) (ho : OpR X (inplaceOp op) r) (hf : Srv2 X r f) (he : PEd X W e d) (hN : X.N[i]? = some x := by rfl) (hl : Loc X.env.scope x := by first | exact Or.inl rfl | exact Or.inr rfl) (hk : X.fn x = true ∨ X.env.scope.names.lookup x = some .local := by first | exact .inl rfl | exact .inr rfl) :
    PSd X W (.AugAssign (.Name x pos') op e pos) (sAug i f d) := by
  refine (ps_aug nd hN hl he (ti := r) ho hk).le fun Dn σ H ⟨ρ, σd, G, c, h⟩ => ?_
  unfold sAug eVar at h
  cases q : σd[i]? with
  | none => simp only [q] at h; exact h.elim
  | some o =>
    cases o with
    | none => simp only [q] at h; exact h.elim
    | some dx =>
      simp only [q, bindS_ok] at h
      obtain ⟨v, h1, h2⟩ := c.at_ i dx q
      refine ⟨v, h1, ρ, σd, G, c, (SPst.bind c h).mono fun ρ1 H1 G1 a y e1 s1 r1 _ ⟨ρ2, G2, a2, e2, c2, d2, q2⟩ => ?_⟩
      refine hf (WA W σ) ρ2 G2 H1 v y dx a2 _ c2.rs (h2.ext e2) d2 ((SPst.bind c2 q2).mono fun _ _ _ _ _ _ _ _ _ ⟨ρ3, G3, a3, e3, c3, d3, q3⟩ => ?_)
      exact q3 _ _ _ (.refl _ _) (c3.set d3)
/-- o[i] = e -/
def setI (o i v : D) (σ : PEnv) (G : GS) : RSt := match o, i with
  | .ref n, .int k => match G[n]? with
    | some (.lst ds) => match ixN ds.length k with
      | some j => .nx σ (G.set n (.lst (ds.set j v)))
      | none => .bad
    | _ => .bad
  | _, _ => .bad
def sSetI (o i v : DE) : DS := fun σ G => bindS (v σ G) σ fun dv G1 => bindS (o σ G1) σ fun d_o G2 => bindS (i σ G2) σ fun di G3 => setI d_o di dv σ G3
theorem le_setI {o i : Expr} {d_o di dv : DE} {pos' : Pos} (he : PEd X W e dv) (ho : PEd X W o d_o) (hi : PEd X W i di)
    (ha : ∀ v, assign (.Subscript o i pos') X.env v = (do
      let ov ← holding [v] (eval o X.env)
      let iv ← holding [v, ov] (eval i X.env)
      standAt pos'
      holding [v, ov, iv] (setItem ov iv v)
      release [v, ov, iv] []) := by intro _; rfl)
    (hs : swapsWithSole [.Subscript o i pos'] e pos.line X.env = pure false := by rfl) (hw : swappedStores [.Subscript o i pos'] e X.env = pure none := by rfl)
    (h1 : (assignEach [.Subscript o i pos'] X.env).map (·.2) = [assign (.Subscript o i pos') X.env] := by rfl) : PSd X W (.Assign [.Subscript o i pos'] e pos) (sSetI d_o di dv) := by
  refine (ps_asg he (pg_sub ho hi set_list ha) hs hw h1).le fun Dn σ H ⟨ρ, σd, G, c, h⟩ => ⟨ρ, σd, G, c, (SPst.bind c h).mono fun _ _ _ _ _ _ _ _ _ ⟨ρ1, G1, a1, e1, c1, d1, q1⟩ => ?_⟩
  refine ⟨ρ1, σd, G1, c1, (SPst.bind c1 q1).mono fun _ _ _ _ _ _ _ _ _ ⟨ρ2, G2, a2, e2, c2, d2, q2⟩ => ?_⟩
  refine ⟨ρ2, σd, G2, c2, (SPst.bind c2 q2).mono fun _ H3 _ _ _ _ _ _ _ ⟨ρ3, G3, a3, e3, c3, d3, q3⟩ => ?_⟩
  have d2' := d2.ext e3
  have d1' := (d1.ext e2).ext e3
  cases a2 with
  | ref n =>
    cases a3 with
    | int k =>
      simp only [setI] at q3
      obtain ⟨p, hp, ev⟩ := d2'
      subst ev
      cases (show _ = _ from d3)
      cases g : G3[n]? with
      | none => simp only [g] at q3; exact q3.elim
      | some ob =>
        cases ob with
        | ins _ _ => simp only [g] at q3; exact q3.elim
        | dcT _ _ => simp only [g] at q3; exact q3.elim
        | dic _ _ => simp only [g] at q3; exact q3.elim
        | lst ds =>
          simp only [g] at q3
          obtain ⟨vs, hv, rv⟩ := c3.rs.at_ n p _ hp g
          cases ix : ixN ds.length k with
          | none => simp only [ix] at q3; exact q3.elim
          | some j =>
            simp only [ix] at q3
            refine ⟨p, vs, k, j, rfl, rfl, hv, by rw [← rv.length]; exact ix, ?_⟩
            obtain ⟨ex, rs⟩ := c3.rs.write (o := .lst (vs.set j _)) (ob := .lst (ds.set j a1)) hp fun ex => ⟨_, upd_same, RDs.set (d1'.ext ex) j (rv.ext ex)⟩
            exact q3 _ _ _ ex (c3.ext ex rs)
    | _ => exact q3.elim
  | _ => exact q3.elim

/-! ## for -/
def forL (g : DG) (body : DS) : List D → DS
  | [] => fun σ G => .nx σ G
  | d :: ds => fun σ G => match g d σ with
    | some σ1 => turnR (body σ1 G) (forL g body ds)
    | none => .bad
abbrev DI := PEnv → GS → RE (List D)
def Wlk (K : PySem.W.Frag) (mg : MG) (ρ : List Addr) (H : Hp) (ds : List D) (J : It) : Prop :=
  ∀ i ρ' G' H', Ext ρ H ρ' H' → RS K mg ρ' G' H' → (ds.length ≤ i → J.stop i H') ∧
    (∀ d, ds[i]? = some d → J.go i H' ∧ ∀ x H'', J.yld i H' x H'' → Ext ρ' H' ρ' H'' ∧ RS K mg ρ' G' H'' ∧ RD K ρ' H'' d x)
def tI (K : PySem.W.Frag) (mg : MG) (W : WX) (r : DI) : TI := fun σ H R => ∃ ρ σd G, Ct K mg ρ σd G σ H ∧ EP' K mg (Wlk K mg) (WA W σ) ρ H (r σd G) R
abbrev PId (X : Cx) (W : WX) (tg e : Expr) (r : DI) : Prop := PI X tg e (tI X.K X.mg W r)
theorem _root_.L2.PI.le {tg e : Expr} {t t' : TI} (h : PI X tg e t) (k : ∀ σ H Q, t' σ H Q → t σ H Q) : PI X tg e t' := ⟨fun pins s σ H R I q => h.run pins s σ H R I (k σ H R q)⟩
def sFor (g : DG) (it : DI) (body : DS) : DS := fun σ G => bindS (it σ G) σ fun ds G1 => forL g body ds σ G1
theorem SPst.turnN {K : PySem.W.Frag} {mg : MG} {W : WX} {ρ : List Addr} {H : Hp} {r : RSt} {b : DS} {Dn : Ends} {N : L2.St → Hp → Prop} (h : SPst K mg W ρ H (turnR r b) Dn)
    (k : ∀ ρ' H' σ' σd' G', Ext ρ H ρ' H' → Ct K mg ρ' σd' G' σ' H' → SPst K mg W ρ' H' (b σd' G') Dn → N σ' H') : SPst K mg W ρ H r { Dn with nx := N, ct := N, bk := Dn.nx } := by
  cases r with
  | nx σ G => exact fun ρ' H' σ' e c => k ρ' H' σ' σ G e c (SPst.deeper e h)
  | ret d G => exact h
  | brk σ G => exact h
  | cont σ G => exact fun ρ' H' σ' e c => k ρ' H' σ' σ G e c (SPst.deeper e h)
  | exc c fs σ G => exact h
  | bad => exact h
theorem for_le {g : DG} {di : DI} {db : DS} {Dn : Ends} {σ : L2.St} {H : Hp} (h : tS X.K X.mg W (sFor g di db) Dn σ H) : tFor (tI X.K X.mg W di) (tG X.K X.mg g) (tS X.K X.mg W db) Dn σ H := by
  obtain ⟨ρ, σd, G, c, h⟩ := h
  refine ⟨ρ, σd, G, c, (SPst.bind c h).mono fun _ H1 _ _ J _ _ _ _ ⟨ρ1, G1, ds, e1, c1, w1, h1⟩ => ?_⟩
  refine ⟨fun i m σ H => m = ds.length - i ∧ i ≤ ds.length ∧ ∃ ρ σd G, Ext ρ1 H1 ρ H ∧ Ct X.K X.mg ρ σd G σ H ∧ SPst X.K X.mg W ρ H (forL g db (ds.drop i) σd G) Dn,
    ⟨ds.length, by simp, Nat.zero_le _, ρ1, σd, G1, .refl _ _, c1, h1⟩, ?_⟩
  rintro i m σ2 H2 ⟨rfl, hi, ρ2, σd2, G2, e2, c2, h2⟩
  obtain ⟨wstop, wgo⟩ := w1 i ρ2 G2 H2 e2 c2.rs
  by_cases hlt : i < ds.length
  · obtain ⟨go, yl⟩ := wgo ds[i] (by simp [hlt])
    rw [List.drop_eq_getElem_cons hlt] at h2
    simp only [forL] at h2
    refine .inr ⟨go, fun σ' H' => ∃ ρ σd G, Ext ρ1 H1 ρ H' ∧ Ct X.K X.mg ρ σd G σ' H' ∧ SPst X.K X.mg W ρ H' (forL g db (ds.drop (i + 1)) σd G) Dn, fun σ' H' q => ⟨ds.length - (i + 1), by omega, rfl, hlt, q⟩, fun x H' y => ?_⟩
    obtain ⟨e3, s3, r3⟩ := yl x H' y
    refine ⟨ρ2, σd2, G2, ds[i], c2.ext e3 s3, r3, ?_⟩
    cases q : g ds[i] σd2 with
    | none => simp only [q] at h2; exact h2.elim
    | some σ1 =>
      simp only [q] at h2
      refine fun σ' c' => ⟨ρ2, σ1, G2, c', SPst.turnN (SPst.deeper e3 h2) fun ρ' H' σ' σd' G' e c h => ⟨ρ', σd', G', (e2.trans e3).trans e, c, h⟩⟩
  · have e : i = ds.length := by omega
    subst e
    rw [List.drop_length] at h2
    exact .inl ⟨wstop (Nat.le_refl _), h2 _ _ _ (.refl _ _) c2⟩
theorem le_for {tg it : Expr} {body : List Stmt} {g : DG} {di : DI} {db : DS} (hp : PassesOwn (model X.prog X.w) X.A X.env X.xe) (hc : X.calm = true) (hi : PId X W tg it di) (hg : PGd X tg g) (hb : PSsd X W body db)
    (hs : ∀ x, foldedSetIterable it X.env x = pure x := by intro _; rfl) : PSd X W (.For tg it body [] pos) (sFor g di db) :=
  (ps_for hp hc hi hg hb hs).le fun Dn σ H h => for_le h
/-- over a list or a tuple that stands still -/
def iSeqL (e : DE) : DI := fun σ G => bindE (e σ G) fun d G1 => match d with | .lst ds => .ok ds G1 | _ => .bad
def iSeqT (e : DE) : DI := fun σ G => bindE (e σ G) fun d G1 => match d with | .tup ds => .ok ds G1 | _ => .bad
theorem iL_le {d : DE} (σ : L2.St) (H : Hp) (R : It → Hp → Prop) (h : tI X.K X.mg W (iSeqL d) σ H R) : iList X.K (tE X.K X.mg W d) σ H R := by
  obtain ⟨ρ, σd, G, c, h⟩ := h
  refine ⟨ρ, σd, G, c, (EP'.bind h).mono fun _ H1 _ _ _ _ _ _ _ ⟨ρ1, G1, a, e1, s1, d1, _, h1⟩ => ?_⟩
  cases a with
  | lst ds =>
    obtain ⟨a, vs, ev, la, rv⟩ := d1
    have sq : ∀ {ρ' H'}, Ext ρ1 H1 ρ' H' → SqL X.K H' a vs := fun e => .of (e.keep _ _ la.1 la.2)
    refine ⟨a, ev, ⟨vs, .of la.1⟩, h1 ρ1 H1 _ (.refl _ _) s1 fun i ρ' G' H' e s => ⟨fun hl => ⟨vs, sq e, by rw [← rv.length]; exact hl⟩, fun d hd => ?_⟩⟩
    obtain ⟨v, hv, rd⟩ := rv.get hd
    refine ⟨⟨vs, v, sq e, hv⟩, fun x H'' ⟨eh, y⟩ => ?_⟩
    subst eh
    have := y vs (sq e)
    rw [hv] at this
    cases this
    exact ⟨.refl _ _, s, rd.ext e⟩
  | _ => exact h1.elim
theorem le_iL {tg e : Expr} {d : DE} (he : PEd X W e d) : PId X W tg e (iSeqL d) := (pi_list he).le fun σ H R h => iL_le σ H R h
theorem iT_le {d : DE} (σ : L2.St) (H : Hp) (R : It → Hp → Prop) (h : tI X.K X.mg W (iSeqT d) σ H R) : iTup X.K (tE X.K X.mg W d) σ H R := by
  obtain ⟨ρ, σd, G, c, h⟩ := h
  refine ⟨ρ, σd, G, c, (EP'.bind h).mono fun _ H1 _ _ _ _ _ _ _ ⟨ρ1, G1, a, e1, s1, d1, _, h1⟩ => ?_⟩
  cases a with
  | tup ds =>
    obtain ⟨a, vs, ev, la, rv⟩ := d1
    refine ⟨a, ev, ⟨vs, la.sq⟩, h1 ρ1 H1 _ (.refl _ _) s1 fun i ρ' G' H' e s => ⟨fun hl => ⟨vs, (la.ext e).sq, by rw [← rv.length]; exact hl⟩, fun d hd => ?_⟩⟩
    obtain ⟨v, hv, rd⟩ := rv.get hd
    refine ⟨⟨vs, v, (la.ext e).sq, hv⟩, fun x H'' ⟨eh, y⟩ => ?_⟩
    subst eh
    have := y vs (la.ext e).sq
    rw [hv] at this
    cases this
    exact ⟨.refl _ _, s, rd.ext e⟩
  | _ => exact h1.elim
theorem le_iT {tg e : Expr} {d : DE} (he : PEd X W e d) : PId X W tg e (iSeqT d) := (pi_tup he).le fun σ H R h => iT_le σ H R h
def rngD (lo : Int) (n : Nat) : List D := (List.range n).map fun (k : Nat) => .int (lo + (k : Int))
/-- closed to the kernel's unfolding: it would count up to 2 ^ 62 -/
theorem i62_ex : ∃ f : Int → Bool, ∀ i, f i = (decide (-(2 ^ 62) ≤ i) && decide (i < 2 ^ 62)) := ⟨_, fun _ => rfl⟩
noncomputable def i62 : Int → Bool := Classical.choose i62_ex
theorem i62_eq (i : Int) : i62 i = (decide (-(2 ^ 62) ≤ i) && decide (i < 2 ^ 62)) := Classical.choose_spec i62_ex i
noncomputable def rng1 (ds : List D) (G : GS) : RE (List D) := match ds with
  | [.int j] => if i62 j = true then .ok (rngD 0 j.toNat) G else .bad
  | _ => .bad
noncomputable def rng2 (ds : List D) (G : GS) : RE (List D) := match ds with
  | [.int i, .int j] => if (i62 i && i62 j) = true then .ok (rngD i (j - i).toNat) G else .bad
  | _ => .bad
noncomputable def iRg1 (a : DA) : DI := fun σ G => bindE (a σ G) rng1
noncomputable def iRg2 (a : DA) : DI := fun σ G => bindE (a σ G) rng2
theorem wlk_rng {K : PySem.W.Frag} {mg : MG} {ρ : List Addr} {H : Hp} {lo : Int} {n : Nat} : Wlk K mg ρ H (rngD lo n) (Itr lo n) := by
  intro i ρ' G' H' e s
  refine ⟨fun hl => by have z : n ≤ i := by { simpa [rngD] using hl }; exact z, fun d hd => ?_⟩
  have hi : i < n := by
    have := (List.getElem?_eq_some_iff.mp hd).1
    simpa [rngD] using this
  refine ⟨hi, fun x H'' ⟨eh, ex⟩ => ?_⟩
  subst eh ex
  refine ⟨.refl _ _, s, ?_⟩
  simp [rngD, hi] at hd
  subst hd
  rfl
theorem le_rg1 {tg a : Expr} {da : DA} {p pos : Pos} (hg : Gl X "range") (hm : X.mg "range" = none) (ha : PAd X W [a] da) (hs : starEach [a] X.env = [(false, eval a X.env)] := by rfl) : PId X W tg (.Call (.Name "range" p) [a] [] pos) (iRg1 da) := by
  refine (pi_range1 hg hm ha hs).le fun σ H R ⟨ρ, σd, G, c, h⟩ => ⟨ρ, σd, G, c, (EP'.bind h).mono fun _ H1 _ _ vs _ _ _ _ ⟨ρ1, G1, ds, e1, s1, d1, _, h1⟩ => ?_⟩
  unfold rng1 at h1
  split at h1
  · rename_i j _
    obtain ⟨v, r, ev, dv, dr⟩ := d1
    cases (show _ = _ from dv); cases (show _ = _ from dr)
    by_cases q : i62 j = true
    · rw [if_pos q] at h1
      simp only [i62_eq, Bool.and_eq_true, decide_eq_true_eq] at q
      exact ⟨j, ev, q.1, q.2, h1 ρ1 H1 _ (.refl _ _) s1 wlk_rng⟩
    · rw [if_neg q] at h1; exact h1.elim
  · exact h1.elim
theorem le_rg2 {tg a b : Expr} {da : DA} {p pos : Pos} (hg : Gl X "range") (hm : X.mg "range" = none) (ha : PAd X W [a, b] da) (hs : starEach [a, b] X.env = [(false, eval a X.env), (false, eval b X.env)] := by rfl) (hs2 : starEach [b] X.env = [(false, eval b X.env)] := by rfl) :
    PId X W tg (.Call (.Name "range" p) [a, b] [] pos) (iRg2 da) := by
  refine (pi_range2 hg hm ha hs hs2).le fun σ H R ⟨ρ, σd, G, c, h⟩ => ⟨ρ, σd, G, c, (EP'.bind h).mono fun _ H1 _ _ vs _ _ _ _ ⟨ρ1, G1, ds, e1, s1, d1, _, h1⟩ => ?_⟩
  unfold rng2 at h1
  split at h1
  · rename_i i j _
    obtain ⟨v, r, ev, dv, v2, r2, er, dv2, dr⟩ := d1
    cases (show _ = _ from dv); cases (show _ = _ from dv2); cases (show _ = _ from dr)
    subst er
    by_cases q : (i62 i && i62 j) = true
    · rw [if_pos q] at h1
      simp only [i62_eq, Bool.and_eq_true, decide_eq_true_eq] at q
      exact ⟨i, j, ev, ⟨q.1.1, q.1.2, q.2.1, q.2.2⟩, h1 ρ1 H1 _ (.refl _ _) s1 wlk_rng⟩
    · rw [if_neg q] at h1; exact h1.elim
  · exact h1.elim
end
end Dl
namespace Dl
open PySem L2

/-! ## what leaves a def -/
mutual
def subD (f : Nat → Option D) : D → Option D
  | .non => some .non
  | .bl b => some (.bl b)
  | .int i => some (.int i)
  | .str s => some (.str s)
  | .tup ds => (subDs f ds).map .tup
  | .lst ds => (subDs f ds).map .lst
  | .dic ks ds => (subDs f ds).map (.dic ks)
  | .exn a dd ks ds => (subDs f ds).map (.exn a dd ks)
  | .ref n => f n
  | .scr ns => some (.scr ns)
  | .key ns => some (.key ns)
def subDs (f : Nat → Option D) : List D → Option (List D)
  | [] => some []
  | d :: ds => match subD f d, subDs f ds with
    | some a, some b => some (a :: b)
    | _, _ => none
end
mutual
def clsD (n : Nat) : D → Bool
  | .non => true
  | .bl _ => true
  | .int _ => true
  | .str _ => true
  | .tup ds => clsDs n ds
  | .lst ds => clsDs n ds
  | .dic _ ds => clsDs n ds
  | .exn _ _ _ ds => clsDs n ds
  | .ref m => decide (m < n)
  | .scr _ => true
  | .key _ => true
def clsDs (n : Nat) : List D → Bool
  | [] => true
  | d :: ds => clsD n d && clsDs n ds
end
mutual
def beqD : D → D → Bool
  | .non, .non => true
  | .bl a, .bl b => decide (a = b)
  | .int a, .int b => decide (a = b)
  | .str a, .str b => decide (a = b)
  | .tup a, .tup b => beqDs a b
  | .lst a, .lst b => beqDs a b
  | .dic k a, .dic l b => decide (k = l) && beqDs a b
  | .exn x y k a, .exn x' y' l b => decide (x = x') && (decide (y = y') && (decide (k = l) && beqDs a b))
  | .ref a, .ref b => decide (a = b)
  | .scr a, .scr b => decide (a = b)
  | .key a, .key b => decide (a = b)
  | _, _ => false
def beqDs : List D → List D → Bool
  | [], [] => true
  | a :: as, b :: bs => beqD a b && beqDs as bs
  | _, _ => false
end
mutual
theorem beqD_eq : ∀ {a b : D}, beqD a b = true → a = b
  | .non, .non, _ => rfl
  | .bl a, .bl b, h => by simp [beqD] at h; rw [h]
  | .int a, .int b, h => by simp [beqD] at h; rw [h]
  | .str a, .str b, h => by simp [beqD] at h; rw [h]
  | .tup a, .tup b, h => by simp only [beqD] at h; rw [beqDs_eq h]
  | .lst a, .lst b, h => by simp only [beqD] at h; rw [beqDs_eq h]
  | .dic k a, .dic l b, h => by simp only [beqD, Bool.and_eq_true, decide_eq_true_eq] at h; rw [h.1, beqDs_eq h.2]
  | .exn x y k a, .exn x' y' l b, h => by simp only [beqD, Bool.and_eq_true, decide_eq_true_eq] at h; rw [h.1, h.2.1, h.2.2.1, beqDs_eq h.2.2.2]
  | .ref a, .ref b, h => by simp [beqD] at h; rw [h]
  | .scr a, .scr b, h => by simp [beqD] at h; rw [h]
  | .key a, .key b, h => by simp [beqD] at h; rw [h]
  | .key _, .non, h | .non, .key _, h | .key _, .bl _, h | .bl _, .key _, h | .key _, .int _, h | .int _, .key _, h | .key _, .str _, h | .str _, .key _, h | .key _, .tup _, h | .tup _, .key _, h | .key _, .lst _, h | .lst _, .key _, h | .key _, .dic _ _, h | .dic _ _, .key _, h | .key _, .exn _ _ _ _, h | .exn _ _ _ _, .key _, h | .key _, .ref _, h | .ref _, .key _, h | .key _, .scr _, h | .scr _, .key _, h => by simp [beqD] at h
  | .exn _ _ _ _, .non, h | .non, .exn _ _ _ _, h | .exn _ _ _ _, .bl _, h | .bl _, .exn _ _ _ _, h | .exn _ _ _ _, .int _, h | .int _, .exn _ _ _ _, h | .exn _ _ _ _, .str _, h | .str _, .exn _ _ _ _, h | .exn _ _ _ _, .tup _, h | .tup _, .exn _ _ _ _, h | .exn _ _ _ _, .lst _, h | .lst _, .exn _ _ _ _, h | .exn _ _ _ _, .dic _ _, h | .dic _ _, .exn _ _ _ _, h | .exn _ _ _ _, .ref _, h | .ref _, .exn _ _ _ _, h | .exn _ _ _ _, .scr _, h | .scr _, .exn _ _ _ _, h => by simp [beqD] at h
  | .scr _, .non, h | .scr _, .bl _, h | .scr _, .int _, h | .scr _, .str _, h | .scr _, .tup _, h | .scr _, .lst _, h | .scr _, .dic _ _, h | .scr _, .ref _, h => by simp [beqD] at h
  | .non, .scr _, h | .bl _, .scr _, h | .int _, .scr _, h | .str _, .scr _, h | .tup _, .scr _, h | .lst _, .scr _, h | .dic _ _, .scr _, h | .ref _, .scr _, h => by simp [beqD] at h
  | .non, .bl _, h | .non, .int _, h | .non, .str _, h | .non, .tup _, h | .non, .lst _, h | .non, .dic _ _, h | .non, .ref _, h => by simp [beqD] at h
  | .bl _, .non, h | .bl _, .int _, h | .bl _, .str _, h | .bl _, .tup _, h | .bl _, .lst _, h | .bl _, .dic _ _, h | .bl _, .ref _, h => by simp [beqD] at h
  | .int _, .non, h | .int _, .bl _, h | .int _, .str _, h | .int _, .tup _, h | .int _, .lst _, h | .int _, .dic _ _, h | .int _, .ref _, h => by simp [beqD] at h
  | .str _, .non, h | .str _, .bl _, h | .str _, .int _, h | .str _, .tup _, h | .str _, .lst _, h | .str _, .dic _ _, h | .str _, .ref _, h => by simp [beqD] at h
  | .tup _, .non, h | .tup _, .bl _, h | .tup _, .int _, h | .tup _, .str _, h | .tup _, .lst _, h | .tup _, .dic _ _, h | .tup _, .ref _, h => by simp [beqD] at h
  | .lst _, .non, h | .lst _, .bl _, h | .lst _, .int _, h | .lst _, .str _, h | .lst _, .tup _, h | .lst _, .dic _ _, h | .lst _, .ref _, h => by simp [beqD] at h
  | .dic _ _, .non, h | .dic _ _, .bl _, h | .dic _ _, .int _, h | .dic _ _, .str _, h | .dic _ _, .tup _, h | .dic _ _, .lst _, h | .dic _ _, .ref _, h => by simp [beqD] at h
  | .ref _, .non, h | .ref _, .bl _, h | .ref _, .int _, h | .ref _, .str _, h | .ref _, .tup _, h | .ref _, .lst _, h | .ref _, .dic _ _, h => by simp [beqD] at h
theorem beqDs_eq : ∀ {a b : List D}, beqDs a b = true → a = b
  | [], [], _ => rfl
  | a :: as, b :: bs, h => by
    simp only [beqDs, Bool.and_eq_true] at h
    rw [beqD_eq h.1, beqDs_eq h.2]
  | [], _ :: _, h => by simp [beqDs] at h
  | _ :: _, [], h => by simp [beqDs] at h
end
mutual
theorem beqD_refl : ∀ (a : D), beqD a a = true
  | .non => rfl
  | .bl _ => by simp [beqD]
  | .int _ => by simp [beqD]
  | .str _ => by simp [beqD]
  | .tup a => by simp only [beqD]; exact beqDs_refl a
  | .lst a => by simp only [beqD]; exact beqDs_refl a
  | .dic k a => by simp only [beqD, decide_true, Bool.true_and]; exact beqDs_refl a
  | .exn _ _ k a => by simp only [beqD, decide_true, Bool.true_and]; exact beqDs_refl a
  | .ref _ => by simp [beqD]
  | .scr _ => by simp [beqD]
  | .key _ => by simp [beqD]
theorem beqDs_refl : ∀ (a : List D), beqDs a a = true
  | [] => rfl
  | a :: as => by simp only [beqDs, beqD_refl a, beqDs_refl as, Bool.true_and]
end
def fldD (fs : List (Str × D)) : List D := fs.map (·.2)
def beqO : Ob → Ob → Bool
  | .lst a, .lst b => beqDs a b
  | .ins c a, .ins d b => decide (c = d) && decide (a.map (·.1) = b.map (·.1)) && beqDs (a.map (·.2)) (b.map (·.2))
  | .dic k a, .dic l b => decide (k = l) && beqDs a b
  | .dcT k a, .dcT l b => decide (k = l) && beqDs a b
  | _, _ => false
theorem zip_eq : ∀ {a b : List (Str × D)}, a.map (·.1) = b.map (·.1) → a.map (·.2) = b.map (·.2) → a = b
  | [], [], _, _ => rfl
  | (k, d) :: a, (l, e) :: b, h, h' => by
    simp only [List.map_cons, List.cons.injEq] at h h'
    rw [h.1, h'.1, zip_eq h.2 h'.2]
  | [], _ :: _, h, _ => by simp at h
  | _ :: _, [], h, _ => by simp at h
theorem beqO_eq : ∀ {a b : Ob}, beqO a b = true → a = b
  | .lst a, .lst b, h => by simp only [beqO] at h; rw [beqDs_eq h]
  | .ins c a, .ins d b, h => by
    simp only [beqO, Bool.and_eq_true, decide_eq_true_eq] at h
    rw [h.1.1, zip_eq h.1.2 (beqDs_eq h.2)]
  | .dic k a, .dic l b, h => by simp only [beqO, Bool.and_eq_true, decide_eq_true_eq] at h; rw [h.1, beqDs_eq h.2]
  | .dcT k a, .dcT l b, h => by simp only [beqO, Bool.and_eq_true, decide_eq_true_eq] at h; rw [h.1, beqDs_eq h.2]
  | .dcT _ _, .lst _, h | .dcT _ _, .ins _ _, h | .dcT _ _, .dic _ _, h => by simp [beqO] at h
  | .lst _, .dcT _ _, h | .ins _ _, .dcT _ _, h | .dic _ _, .dcT _ _, h => by simp [beqO] at h
  | .lst _, .ins _ _, h | .lst _, .dic _ _, h | .ins _ _, .dic _ _, h | .dic _ _, .lst _, h | .dic _ _, .ins _ _, h => by simp [beqO] at h
  | .ins _ _, .lst _, h => by simp [beqO] at h
theorem beqO_refl : ∀ (a : Ob), beqO a a = true
  | .lst a => by simp only [beqO]; exact beqDs_refl a
  | .ins c a => by simp only [beqO, decide_true, Bool.true_and]; exact beqDs_refl _
  | .dic c a => by simp only [beqO, decide_true, Bool.true_and]; exact beqDs_refl _
  | .dcT c a => by simp only [beqO, decide_true, Bool.true_and]; exact beqDs_refl _
def beqG : GS → GS → Bool
  | [], [] => true
  | a :: as, b :: bs => beqO a b && beqG as bs
  | _, _ => false
theorem beqG_eq : ∀ {a b : GS}, beqG a b = true → a = b
  | [], [], _ => rfl
  | a :: as, b :: bs, h => by
    simp only [beqG, Bool.and_eq_true] at h
    rw [beqO_eq h.1, beqG_eq h.2]
  | [], _ :: _, h => by simp [beqG] at h
  | _ :: _, [], h => by simp [beqG] at h
theorem beqG_refl : ∀ (a : GS), beqG a a = true
  | [] => rfl
  | a :: as => by simp only [beqG, beqO_refl a, beqG_refl as, Bool.true_and]
def clsO (n : Nat) : Ob → Bool
  | .lst ds => clsDs n ds
  | .ins _ fs => clsDs n (fs.map (·.2))
  | .dic _ ds => clsDs n ds
  | .dcT _ ds => clsDs n ds
def clsG (n : Nat) (G : GS) : Bool := G.all (clsO n)
def sealR : Nat → Nat → GS → Nat → Option D
  | 0, _, _, _ => none
  | k + 1, n, G, m => if m < n then some (.ref m) else match G[m]? with
    | some (.lst ds) => (subDs (sealR k n G) ds).map .lst
    | some (.dic ks ds) => (subDs (sealR k n G) ds).map (.dic ks)
    | _ => none
/-- what a def (entered with G) hands back: lists of its own are closed, its own objects forgotten, where that can be done -/
def finish {α : Type} (sub : (Nat → Option D) → α → Option α) (G : GS) (d : α) (G' : GS) (k : α → GS → RE β) : RE β :=
  if G'.length = G.length then k d G' else
  if (beqG (G'.take G.length) G || clsG G.length (G'.take G.length)) = true then match sub (sealR 6 G.length G') d with
    | some d' => k d' (G'.take G.length)
    | none => k d G'
  else k d G'
def subF (f : Nat → Option D) (fs : List (Str × D)) : Option (List (Str × D)) := (subDs f (fs.map (·.2))).map fun ds => (fs.map (·.1)).zip ds
def runF (N : Nat) (b : DS) : DF := fun ds G => match b (ds.map some ++ List.replicate (N - ds.length) none) G with
  | .nx _ G' => finish subD G .non G' .ok
  | .ret d G' => finish subD G d G' .ok
  | .exc c fs _ G' => finish subF G fs G' (.exc c)
  | _ => .bad

section
variable {K : PySem.W.Frag} {mg : MG} {ρ ρ' : List Addr} {H H' : Hp} {G G' : GS}
mutual
theorem cls_of : ∀ {d : D} {v : V}, RD K ρ H d v → clsD ρ.length d = true
  | .non, _, _ => rfl
  | .bl _, _, _ => rfl
  | .int _, _, _ => rfl
  | .str _, _, _ => rfl
  | .tup _, _, ⟨_, _, _, _, h⟩ => by simp only [clsD]; exact clss_of h
  | .lst _, _, ⟨_, _, _, _, h⟩ => by simp only [clsD]; exact clss_of h
  | .dic _ _, _, ⟨_, _, _, _, _, _, h⟩ => by simp only [clsD]; exact clss_of h
  | .exn _ _ _ _, _, ⟨_, _, _, _, _, h⟩ => by simp only [clsD]; exact clss_of h
  | .ref n, _, ⟨a, h, _⟩ => by simp only [clsD, decide_eq_true_eq]; exact (List.getElem?_eq_some_iff.mp h).1
  | .scr _, _, _ => rfl
  | .key _, _, _ => rfl
theorem clss_of : ∀ {ds : List D} {vs : List V}, RDs K ρ H ds vs → clsDs ρ.length ds = true
  | [], _, _ => rfl
  | _ :: _, _, ⟨_, _, _, h1, h2⟩ => by simp only [clsDs, cls_of h1, clss_of h2, Bool.true_and]
end
theorem LstAt.cut {n : Nat} {a : Addr} {vs : List V} (h : LstAt K ρ H a vs) : LstAt K (ρ.take n) H a vs := by
  rcases h with ⟨h, q⟩ | h
  · exact .inl ⟨h, fun z => q (List.mem_of_mem_take z)⟩
  · exact .inr h
theorem TupAt.cut {n : Nat} {a : Addr} {vs : List V} (h : TupAt K ρ H a vs) : TupAt K (ρ.take n) H a vs := by
  rcases h with ⟨h, q⟩ | h
  · exact .inl ⟨h, fun z => q (List.mem_of_mem_take z)⟩
  · exact .inr h
mutual
theorem RD.sub {n : Nat} {f : Nat → Option D} (hf : ∀ m d v, f m = some d → RD K ρ H (.ref m) v → RD K (ρ.take n) H d v) : ∀ {d d' : D} {v : V}, subD f d = some d' → RD K ρ H d v → RD K (ρ.take n) H d' v
  | .non, _, _, e, h => by simp only [subD, Option.some.injEq] at e; subst e; exact h
  | .bl _, _, _, e, h => by simp only [subD, Option.some.injEq] at e; subst e; exact h
  | .int _, _, _, e, h => by simp only [subD, Option.some.injEq] at e; subst e; exact h
  | .str _, _, _, e, h => by simp only [subD, Option.some.injEq] at e; subst e; exact h
  | .tup ds, _, _, e, ⟨a, vs, h1, h2, h3⟩ => by
    simp only [subD, Option.map_eq_some_iff] at e
    obtain ⟨es, e1, rfl⟩ := e
    exact ⟨a, vs, h1, h2.cut, RDs.sub hf e1 h3⟩
  | .lst ds, _, _, e, ⟨a, vs, h1, h2, h3⟩ => by
    simp only [subD, Option.map_eq_some_iff] at e
    obtain ⟨es, e1, rfl⟩ := e
    exact ⟨a, vs, h1, ⟨h2.1, fun z => h2.2 (List.mem_of_mem_take z)⟩, RDs.sub hf e1 h3⟩
  | .dic ks ds, _, _, e, ⟨a, kvs, h1, h2, h3, h4, h5⟩ => by
    simp only [subD, Option.map_eq_some_iff] at e
    obtain ⟨es, e1, rfl⟩ := e
    exact ⟨a, kvs, h1, h2, fun z => h3 (List.mem_of_mem_take z), h4, RDs.sub hf e1 h5⟩
  | .exn a dd ks ds, _, _, e, ⟨h1, us, h2, h3, h4, h5⟩ => by
    simp only [subD, Option.map_eq_some_iff] at e
    obtain ⟨es, e1, rfl⟩ := e
    exact ⟨h1, us, h2, fun z => h3 (List.mem_of_mem_take z), h4, RDs.sub hf e1 h5⟩
  | .ref m, _, _, e, h => hf m _ _ (by simpa only [subD] using e) h
  | .scr _, _, _, e, ⟨a, h1, h2⟩ => by simp only [subD, Option.some.injEq] at e; subst e; exact ⟨a, h1, h2.cut⟩
  | .key _, _, _, e, ⟨a, h1, h2, h3⟩ => by simp only [subD, Option.some.injEq] at e; subst e; exact ⟨a, h1, h2, fun z => h3 (List.mem_of_mem_take z)⟩
theorem RDs.sub {n : Nat} {f : Nat → Option D} (hf : ∀ m d v, f m = some d → RD K ρ H (.ref m) v → RD K (ρ.take n) H d v) : ∀ {ds ds' : List D} {vs : List V}, subDs f ds = some ds' → RDs K ρ H ds vs → RDs K (ρ.take n) H ds' vs
  | [], _, _, e, h => by simp only [subDs, Option.some.injEq] at e; subst e; exact h
  | d :: ds, _, _, e, ⟨v, r, h1, h2, h3⟩ => by
    simp only [subDs] at e
    cases e1 : subD f d with
    | none => simp [e1] at e
    | some a =>
      cases e2 : subDs f ds with
      | none => simp [e1, e2] at e
      | some b =>
        simp only [e1, e2, Option.some.injEq] at e
        subst e
        exact ⟨v, r, h1, RD.sub hf e1 h2, RDs.sub hf e2 h3⟩
end
mutual
theorem RD.cut {n : Nat} : ∀ {d : D} {v : V}, clsD n d = true → RD K ρ H d v → RD K (ρ.take n) H d v
  | .non, _, _, h => h
  | .bl _, _, _, h => h
  | .int _, _, _, h => h
  | .str _, _, _, h => h
  | .tup ds, _, e, ⟨a, vs, h1, h2, h3⟩ => ⟨a, vs, h1, h2.cut, RDs.cut (by simpa only [clsD] using e) h3⟩
  | .lst ds, _, e, ⟨a, vs, h1, h2, h3⟩ => ⟨a, vs, h1, ⟨h2.1, fun z => h2.2 (List.mem_of_mem_take z)⟩, RDs.cut (by simpa only [clsD] using e) h3⟩
  | .dic ks ds, _, e, ⟨a, kvs, h1, h2, h3, h4, h5⟩ => ⟨a, kvs, h1, h2, fun z => h3 (List.mem_of_mem_take z), h4, RDs.cut (by simpa only [clsD] using e) h5⟩
  | .exn _ _ ks ds, _, e, ⟨h1, us, h2, h3, h4, h5⟩ => ⟨h1, us, h2, fun z => h3 (List.mem_of_mem_take z), h4, RDs.cut (by simpa only [clsD] using e) h5⟩
  | .ref m, _, e, ⟨a, h1, h2⟩ => by
    simp only [clsD, decide_eq_true_eq] at e
    exact ⟨a, by rw [List.getElem?_take_of_lt e]; exact h1, h2⟩
  | .scr _, _, _, ⟨a, h1, h2⟩ => ⟨a, h1, h2.cut⟩
  | .key _, _, _, ⟨a, h1, h2, h3⟩ => ⟨a, h1, h2, fun z => h3 (List.mem_of_mem_take z)⟩
theorem RDs.cut {n : Nat} : ∀ {ds : List D} {vs : List V}, clsDs n ds = true → RDs K ρ H ds vs → RDs K (ρ.take n) H ds vs
  | [], _, _, h => h
  | d :: ds, _, e, ⟨v, r, h1, h2, h3⟩ => by
    simp only [clsDs, Bool.and_eq_true] at e
    exact ⟨v, r, h1, RD.cut e.1 h2, RDs.cut e.2 h3⟩
end
theorem sealR_ok (s : RS K mg ρ G H) (n : Nat) : ∀ (k m : Nat) (d : D) (v : V), sealR k n G m = some d → RD K ρ H (.ref m) v → RD K (ρ.take n) H d v
  | 0, _, _, _, e, _ => by simp [sealR] at e
  | k + 1, m, d, v, e, ⟨a, h1, h2⟩ => by
    simp only [sealR] at e
    by_cases hm : m < n
    · rw [if_pos hm] at e
      cases e
      exact ⟨a, by rw [List.getElem?_take_of_lt hm]; exact h1, h2⟩
    · rw [if_neg hm] at e
      cases g : G[m]? with
      | none => simp [g] at e
      | some ob =>
        cases ob with
        | ins _ _ => simp [g] at e
        | dcT _ _ => simp [g] at e
        | dic ks ds =>
          simp only [g, Option.map_eq_some_iff] at e
          obtain ⟨es, e1, rfl⟩ := e
          obtain ⟨kvs, hv, ek, rv⟩ := s.at_ m a _ h1 g
          refine ⟨a, kvs, h2, hv, fun z => ?_, ek, RDs.sub (fun m d v q r => sealR_ok s n k m d v q r) e1 rv⟩
          obtain ⟨i, hi, ei⟩ := List.mem_iff_getElem.mp z
          have hin : i < n := Nat.lt_of_lt_of_le hi (by rw [List.length_take]; exact Nat.min_le_left _ _)
          have : ρ[i]? = some a := by
            rw [← ei]
            rw [List.getElem_take]
            exact List.getElem?_eq_getElem _
          have := nd_ix s.nd this h1
          omega
        | lst ds =>
          simp only [g, Option.map_eq_some_iff] at e
          obtain ⟨es, e1, rfl⟩ := e
          obtain ⟨vs, hv, rv⟩ := s.at_ m a _ h1 g
          refine ⟨a, vs, h2, ⟨hv, fun z => ?_⟩, RDs.sub (fun m d v q r => sealR_ok s n k m d v q r) e1 rv⟩
          obtain ⟨i, hi, ei⟩ := List.mem_iff_getElem.mp z
          have hin : i < n := Nat.lt_of_lt_of_le hi (by rw [List.length_take]; exact Nat.min_le_left _ _)
          have : ρ[i]? = some a := by
            rw [← ei]
            rw [List.getElem_take]
            exact List.getElem?_eq_getElem _
          have := nd_ix s.nd this h1
          omega
theorem RS.cut (s : RS K mg ρ G H) {n : Nat} (h : ∀ i ob, i < n → G[i]? = some ob → clsO n ob = true) : RS K mg (ρ.take n) (G.take n) H := by
  refine ⟨s.nd.sublist (List.take_sublist _ _), by rw [List.length_take, List.length_take, s.len], fun i a ob h1 h2 => ?_⟩
  have hi : i < n := by
    have := (List.getElem?_eq_some_iff.mp h1).1
    rw [List.length_take] at this
    omega
  rw [List.getElem?_take_of_lt hi] at h1 h2
  have c := h i ob hi h2
  have r := s.at_ i a ob h1 h2
  cases ob with
  | lst ds => obtain ⟨vs, q, r⟩ := r; exact ⟨vs, q, RDs.cut c r⟩
  | ins _ fs => obtain ⟨C, dx, fvs, g, q, k, r⟩ := r; exact ⟨C, dx, fvs, g, q, k, RDs.cut c r⟩
  | dic ks ds => obtain ⟨kvs, q, k, r⟩ := r; exact ⟨kvs, q, k, RDs.cut c r⟩
  | dcT ks ds => obtain ⟨kvs, q, k, r⟩ := r; exact ⟨kvs, q, k, RDs.cut c r⟩
theorem RS.clsd (s : RS K mg ρ G H) {i : Nat} {ob : Ob} (h : G[i]? = some ob) : clsO ρ.length ob = true := by
  obtain ⟨a, ha, r⟩ := s.get h
  cases ob with
  | lst ds => obtain ⟨vs, q, r⟩ := r; exact clss_of r
  | ins _ fs => obtain ⟨C, dx, fvs, g, q, k, r⟩ := r; exact clss_of r
  | dic ks ds => obtain ⟨kvs, q, k, r⟩ := r; exact clss_of r
  | dcT ks ds => obtain ⟨kvs, q, k, r⟩ := r; exact clss_of r
/-- forgetting what is behind -/
theorem cut_ok (s : RS K mg ρ G H) (e : Ext ρ H ρ' H') (s' : RS K mg ρ' G' H') (c : (beqG (G'.take G.length) G || clsG G.length (G'.take G.length)) = true) :
    ρ'.take G.length = ρ ∧ RS K mg ρ (G'.take G.length) H' ∧ Ext ρ H ρ H' := by
  obtain ⟨t, rfl⟩ := e.pre
  have ht : (ρ ++ t).take G.length = ρ := by rw [← s.len, List.take_left']; rfl
  refine ⟨ht, ?_, ⟨[], by simp⟩, e.keep, fun a h1 h2 => absurd h1 h2⟩
  rw [← ht]
  refine s'.cut fun i ob hi h => ?_
  have hg : (G'.take G.length)[i]? = some ob := by rw [List.getElem?_take_of_lt hi]; exact h
  rcases (Bool.or_eq_true _ _).mp c with c | c
  · rw [beqG_eq c] at hg
    rw [← s.len]
    exact s.clsd hg
  · exact List.all_eq_true.mp c ob (List.mem_of_getElem? hg)
theorem finish_ok {α β γ δ : Type} {R : List Addr → Hp → α → γ → Prop} {R' : List Addr → Hp → β → δ → Prop} {W : XK} {sub : (Nat → Option D) → α → Option α} {d : α} {v : γ} {k : α → GS → RE β} {Q : δ → Hp → Prop}
    (hsub : ∀ (f : Nat → Option D) (n : Nat) (d' : α), (∀ m d v, f m = some d → RD K ρ' H' (.ref m) v → RD K (ρ'.take n) H' d v) → sub f d = some d' → R ρ' H' d v → R (ρ'.take n) H' d' v)
    (s : RS K mg ρ G H) (e : Ext ρ H ρ' H') (s' : RS K mg ρ' G' H') (r : R ρ' H' d v) (h : EP' K mg R' W ρ H (finish sub G d G' k) Q) :
    ∃ ρ2 G2 d2, Ext ρ H ρ2 H' ∧ RS K mg ρ2 G2 H' ∧ R ρ2 H' d2 v ∧ EP' K mg R' W ρ H (k d2 G2) Q := by
  unfold finish at h
  by_cases h1 : G'.length = G.length
  · rw [if_pos h1] at h; exact ⟨ρ', G', d, e, s', r, h⟩
  · rw [if_neg h1] at h
    by_cases h2 : (beqG (G'.take G.length) G || clsG G.length (G'.take G.length)) = true
    · rw [if_pos h2] at h
      cases q : sub (sealR 6 G.length G') d with
      | none => rw [q] at h; exact ⟨ρ', G', d, e, s', r, h⟩
      | some d' =>
        rw [q] at h
        obtain ⟨z, s2, e2⟩ := cut_ok s e s' h2
        refine ⟨ρ, _, d', e2, s2, ?_, h⟩
        have := hsub _ G.length d' (fun m d v a b => sealR_ok s' G.length 6 m d v a b) q r
        rw [z] at this
        exact this
    · rw [if_neg h2] at h; exact ⟨ρ', G', d, e, s', r, h⟩
end

/-! ## defs -/
def spF (K : PySem.W.Frag) (mg : MG) (n : Nat) (F : DF) : Sp := fun vs H Q E => ∃ ρ ds G, RS K mg ρ G H ∧ RDs K ρ H ds vs ∧ ds.length = n ∧ EPD K mg E ρ H (F ds G) Q
def WF (E : XK) : WX := fun cls d _ H => E cls d H
theorem zip_unzip : ∀ (fs : List (Str × D)) (ds : List D), ds.length = fs.length → ((fs.map (·.1)).zip ds).map (·.1) = fs.map (·.1) ∧ ((fs.map (·.1)).zip ds).map (·.2) = ds
  | [], [], _ => ⟨rfl, rfl⟩
  | (k, d) :: fs, e :: ds, h => by
    obtain ⟨h1, h2⟩ := zip_unzip fs ds (by simpa using h)
    simp only [List.map_cons, List.zip_cons_cons, h1, h2, and_self]
  | [], _ :: _, h => by simp at h
  | _ :: _, [], h => by simp at h
section
variable {P : Program} {w : World} {K : PySem.W.Frag} {mg : MG} {base : Heap}
theorem start_ct {ρ : List Addr} {G : GS} {H : Hp} {ds : List D} {vs : List V} {N : List Str} (s : RS K mg ρ G H) (r : RDs K ρ H ds vs) : Ct K mg ρ (ds.map some ++ List.replicate (N.length - ds.length) none) G (L2.start N vs) H := by
  refine ⟨s, by simp [L2.start, r.length], fun i d h => ?_⟩
  have hi : i < ds.length := by
    by_cases hi : i < ds.length
    · exact hi
    · rw [List.getElem?_append_right (by simpa using hi), List.getElem?_replicate] at h
      split at h <;> cases h
  rw [List.getElem?_append_left (by simpa using hi), List.getElem?_map] at h
  cases e : ds[i]? with
  | none => rw [e] at h; cases h
  | some d' =>
    rw [e] at h
    cases h
    obtain ⟨v, h1, h2⟩ := r.get e
    refine ⟨v, ?_, h2⟩
    unfold L2.start
    rw [List.getElem?_append_left (by simpa [r.length] using hi), List.getElem?_map, h1]
    rfl
theorem fn_ok {x qual : Str} {params : Arguments} {body : List Stmt} {scope : Scope} {dvs : List V} {kws : List (Str × V)} {f : Addr} {fd : FuncData} {N ps : List Str} {k n : Nat} {b : DS} (F : FunD K x qual params body scope dvs kws f fd) (S : FnScope N ps scope) (hn : N.length = n)
    (hbody : ∀ (cdv : Value) (A : Around) (outer : List Env) (s : Shared) (H : Hp) (E : XK), Room k (A.deeper (PyProof.Rows.envOfC qual scope s.heap.objs.size f cdv)) →
      PSsd (cxOf (L2.CX P w) P w K mg base N qual scope f cdv A outer s H E) (WF E) body b) : FnOk P w K mg base (L2.CX P w) (k + 1) f fd ps (spF K mg ps.length (runF n b)) := by
  subst hn
  refine F.ok S (fun vs H Q E ⟨ρ, ds, G, s, r, e, _⟩ => by rw [← e, r.length]) fun cdv A outer s H vs Q E hr ⟨ρ, ds, G, rs, r, _, h⟩ => ?_
  refine ⟨_, hbody cdv A outer s H E hr, ρ, _, G, start_ct rs r, ?_⟩
  show SPst K mg (WF E) ρ H (b (ds.map some ++ List.replicate (N.length - ds.length) none) G) _
  unfold runF at h
  cases q : b (ds.map some ++ List.replicate (N.length - ds.length) none) G with
  | nx σ G' =>
    rw [q] at h
    intro ρ' H' σ' e c
    obtain ⟨ρ2, G2, d2, e2, s2, r2, h2⟩ := finish_ok (R := RD K) (d := D.non) (v := V.non) (fun f n d' hf q r => RD.sub hf q r) rs e c.rs (by simp only [RD]) h
    exact h2 ρ2 H' _ e2 s2 r2
  | ret d G' =>
    rw [q] at h
    intro ρ' H' v e s' rv
    obtain ⟨ρ2, G2, d2, e2, s2, r2, h2⟩ := finish_ok (R := RD K) (v := v) (fun f n d' hf q r => RD.sub hf q r) rs e s' rv h
    exact h2 ρ2 H' _ e2 s2 r2
  | brk σ G' => rw [q] at h; exact h.elim
  | cont σ G' => rw [q] at h; exact h.elim
  | bad => rw [q] at h; exact h.elim
  | exc c fs σ G' =>
    rw [q] at h
    intro ρ' H' σ' C dx e ct g x
    obtain ⟨ρ2, G2, d2, e2, s2, r2, h2⟩ := finish_ok (R := fun ρ H fs (_ : Unit) => RX K ρ H dx fs) (v := ()) (fun f n fs' hf q r => by
      cases dx with
      | none =>
        have r : fs = [] := r
        subst r
        simp [subF, subDs] at q
        exact q
      | some dx =>
      obtain ⟨fvs, r1, r2, r3, r4⟩ := r
      unfold subF at q
      rw [Option.map_eq_some_iff] at q
      obtain ⟨es, q1, rfl⟩ := q
      have r5 := RDs.sub hf q1 r4
      have hl : es.length = fs.length := by
        have := congrArg List.length r3
        simp at this
        have := r5.length
        simp at this
        omega
      obtain ⟨z1, z2⟩ := zip_unzip fs es hl
      exact ⟨fvs, r1, fun z => r2 (List.mem_of_mem_take z), by rw [z1]; exact r3, by rw [z2]; exact r5⟩) rs e ct.rs x h
    exact h2 ρ2 H' C dx e2 s2 g r2
end

/-- f(..) -/
def eCall (F : DF) (a : DA) : DE := fun σ G => bindE (a σ G) fun xs G1 => F xs G1
section
variable {X : Cx} {W : WX} {k : Nat} {f : Addr} {fd : FuncData} {ps : List Str} {F : DF} {x : Str} {p pos : Pos} {e : Expr} {es : List Expr} {da : DA}
theorem le_call (G : FnOk X.prog X.w X.K X.mg X.base (L2.CX X.prog X.w) k f fd ps (spF X.K X.mg ps.length F)) (tk : Takes X W) (hr : Room k X.A) (hg : Gl X x) (hm : X.mg x = some (.ref f)) (hk : PySem.W.keepIn X.K (.ref f) = true) (hb : Binds X.K fd ps [])
    (ha : PAd X W (e :: es) da) (hn : ∀ σ G xs G', da σ G = .ok xs G' → xs.length = ps.length) (hdb : (x == ("__debug__" : Str)) = false := by decide) (he : starEach (e :: es) X.env = (false, eval e X.env) :: starEach es X.env := by rfl) (hpl : (backTo pos (starEach es X.env)).any (·.1) = false := by rfl) :
    PEd X W (.Call (.Name x p) (e :: es) [] pos) (eCall F da) := by
  refine (pe_callS G hr hg hm hk hb (fun σ => passAt tk σ) ha hdb he hpl).le fun σ H Q ⟨ρ, σd, Gs, c, h⟩ => ?_
  refine ⟨ρ, σd, Gs, c, (EP'.bind h).mono fun _ H1 _ _ _ _ _ _ _ ⟨ρ1, G1, a, e1, s1, d1, q1, h1⟩ => ?_⟩
  exact ⟨ρ1, a, G1, s1, d1, hn _ _ _ _ q1, h1⟩
end
/-- a def of the top, known by its name -/
def FnX (P : Program) (w : World) (K : PySem.W.Frag) (mg : MG) (base : Heap) (x : Str) (k : Nat) (ps : List Str) (F : DF) : Prop :=
  ∃ fd, FnOk P w K mg base (L2.CX P w) k (He.ga K x) fd ps (spF K mg ps.length F) ∧ Binds K fd ps [] ∧ mg x = some (.ref (He.ga K x)) ∧ PySem.W.keepIn K (.ref (He.ga K x)) = true ∧
    (∀ (s : Shared) (us : List Value), us.length = ps.length → BindsTo s fd ⟨us, []⟩ (ps.zip us)) ∧ ∃ oc od osl, K.lookup (He.ga K x) = some ⟨oc, od, .func fd, osl⟩
theorem FunD_lk {K : PySem.W.Frag} {x qual : Str} {params : Arguments} {body : List Stmt} {scope : Scope} {dvs : List V} {kws : List (Str × V)} {f : Addr} {fd : FuncData} (F : FunD K x qual params body scope dvs kws f fd) : ∃ oc od osl, K.lookup f = some ⟨oc, od, .func fd, osl⟩ := by
  obtain ⟨oc, od, dV, kV, doc, pm, an, cdv, ct, osl, _, h, _⟩ := F.ex
  exact ⟨oc, od, osl, h⟩
theorem fnX {P : Program} {w : World} {K : PySem.W.Frag} {mg : MG} {base : Heap} {x qual : Str} {params : Arguments} {body : List Stmt} {scope : Scope} {N ps : List Str} {k n : Nat} {b : DS}
    (F : ∃ fd, FunD K x qual params body scope [] [] (He.ga K x) fd) (g : mg x = some (.ref (He.ga K x))) (S : FnScope N ps scope) (hn : N.length = n)
    (hb : ∀ (kV doc pm : Value) (an : Option Addr) (cdv ct : Value) (us : List Value), us.length = ps.length → bindArgs (PySem.W.fnOf x qual params body scope .none kV doc pm an cdv ct) ⟨us, []⟩ = pure (ps.zip us))
    (hbody : ∀ (f : Addr) (cdv : Value) (A : Around) (outer : List Env) (s : Shared) (H : Hp) (E : XK), Room k (A.deeper (PyProof.Rows.envOfC qual scope s.heap.objs.size f cdv)) →
      PSsd (cxOf (L2.CX P w) P w K mg base N qual scope f cdv A outer s H E) (WF E) body b) : FnX P w K mg base x (k + 1) ps (runF n b) := by
  obtain ⟨fd, F⟩ := F
  exact ⟨fd, fn_ok F S hn fun cdv A outer s H E hr => hbody _ cdv A outer s H E hr, F.bindsN hb, g, F.kp, F.bindsA hb, FunD_lk F⟩
theorem FnX.mono {P : Program} {w : World} {K : PySem.W.Frag} {mg : MG} {base : Heap} {x : Str} {j k : Nat} {ps : List Str} {F : DF} (h : FnX P w K mg base x j ps F) (l : j ≤ k) : FnX P w K mg base x k ps F := by
  obtain ⟨fd, a, b, c, d⟩ := h
  exact ⟨fd, a.mono l, b, c, d⟩
section
variable {X : Cx} {W : WX} {k : Nat} {ps : List Str} {F : DF} {x : Str} {p pos : Pos} {e : Expr} {es : List Expr} {da : DA}
theorem le_callX (G : FnX X.prog X.w X.K X.mg X.base x k ps F) (tk : Takes X W) (hr : Room k X.A) (hg : Gl X x)
    (ha : PAd X W (e :: es) da) (hn : ∀ σ G xs G', da σ G = .ok xs G' → xs.length = ps.length) (hdb : (x == ("__debug__" : Str)) = false := by decide) (he : starEach (e :: es) X.env = (false, eval e X.env) :: starEach es X.env := by rfl) (hpl : (backTo pos (starEach es X.env)).any (·.1) = false := by rfl) :
    PEd X W (.Call (.Name x p) (e :: es) [] pos) (eCall F da) := by
  obtain ⟨fd, G, b, g, kp, _⟩ := G
  exact le_call G tk hr hg g kp b ha hn hdb he hpl
theorem len_nil {σ : PEnv} {G : GS} {xs : List D} {G' : GS} (h : aNil σ G = .ok xs G') : xs.length = 0 := by
  unfold aNil at h
  injection h with h _
  rw [← h]; rfl
theorem len_cons {d : DE} {r : DA} {n : Nat} (hr : ∀ σ G xs G', r σ G = .ok xs G' → xs.length = n) {σ : PEnv} {G : GS} {xs : List D} {G' : GS} (h : aCons d r σ G = .ok xs G') : xs.length = n + 1 := by
  unfold aCons at h
  cases q : d σ G with
  | bad => rw [q] at h; cases h
  | exc _ _ _ => rw [q] at h; cases h
  | ok a G1 =>
    rw [q, bindE_ok] at h
    cases q2 : r σ G1 with
    | bad => rw [q2] at h; cases h
    | exc _ _ _ => rw [q2] at h; cases h
    | ok as G2 =>
      rw [q2, bindE_ok] at h
      injection h with h _
      rw [← h, List.length_cons, hr _ _ _ _ q2]
end
end Dl
namespace Dl
open PySem L2

section
variable {X : Cx}
theorem S_len (s : List Nat) : (S s).length = s.length := by simp [S, Str.length]
theorem S_cps (s : List Nat) : (S s).cps.toList = s := by simp [S]
theorem S_app (a b : List Nat) : S a ++ S b = S (a ++ b) := by
  show Str.append (S a) (S b) = _
  simp [S, Str.append]
theorem S_inj {a b : List Nat} (h : S a = S b) : a = b := by
  have := congrArg (fun x : Str => x.cps.toList) h
  simpa [S] using this
theorem S_dec (a b : List Nat) : decide (V.str (S a) = V.str (S b)) = decide (a = b) := by
  by_cases h : a = b
  · subst h; simp
  · rw [decide_eq_false h, decide_eq_false]
    intro e; injection e with e; exact h (S_inj e)

/-- an answer that is known -/
theorem now {K : PySem.W.Frag} {mg : MG} {W : XK} {ρ : List Addr} {G : GS} {H : Hp} {d : D} {v : V} {Q : VK} (h : EPD K mg W ρ H (.ok d G) Q) (s : RS K mg ρ G H) (r : RD K ρ H d v) : Q v H := h ρ H v (.refl _ _) s r

/-! ## arithmetic -/
def bSub : D → D → GS → RE D := fun x y G => match x, y with
  | .int i, .int j => .ok (.int (i - j)) G
  | _, _ => .bad
def bFdiv : D → D → GS → RE D := fun x y G => match x, y with
  | .int i, .int j => if 0 < j ∧ j < 1073741824 then .ok (.int (i / j)) G else .bad
  | _, _ => .bad
def bMod : D → D → GS → RE D := fun x y G => match x, y with
  | .int i, .int j => if 0 < j then .ok (.int (i % j)) G else .bad
  | _, _ => .bad
def bPow : D → D → GS → RE D := fun x y G => match x, y with
  | .int i, .int j => if 0 ≤ j ∧ j ≤ 1000000 ∧ i.natAbs < 2 ^ 64 then .ok (.int (i ^ j.toNat)) G else .bad
  | _, _ => .bad
/-- two ints, and nothing else -/
theorem srv_int {r : R2} {f : D → D → GS → RE D} (h : ∀ (W : XK) ρ G H (i j : Int) Q, RS X.K X.mg ρ G H → EPD X.K X.mg W ρ H (f (.int i) (.int j) G) Q → r (.int i) (.int j) H Q)
    (hb : ∀ x y G, (∀ i j, ¬ (x = .int i ∧ y = .int j)) → f x y G = .bad) : Srv2 X r f := by
  intro W ρ G H x y dx dy Q s rx ry q
  by_cases hx : ∃ i j, dx = .int i ∧ dy = .int j
  · obtain ⟨i, j, rfl, rfl⟩ := hx
    cases (show _ = _ from rx); cases (show _ = _ from ry)
    exact h W ρ G H i j Q s q
  · rw [hb dx dy G fun i j e => hx ⟨i, j, e⟩] at q
    exact q.elim
theorem sv_sub : Srv2 X (rI0 fun i j => .int (i - j)) bSub := srv_int (fun W ρ G H i j Q s q => ⟨i, j, rfl, rfl, now q s rfl⟩) fun x y G h => by
  cases x <;> cases y <;> first | rfl | exact absurd ⟨rfl, rfl⟩ (h _ _)
theorem sv_fdiv : Srv2 X (rI CDiv fun i j => .int (i / j)) bFdiv := srv_int (fun W ρ G H i j Q s q => by
    simp only [bFdiv] at q
    split at q
    · rename_i c; exact ⟨i, j, rfl, rfl, c, now q s rfl⟩
    · exact q.elim) fun x y G h => by
  cases x <;> cases y <;> first | rfl | exact absurd ⟨rfl, rfl⟩ (h _ _)
theorem sv_mod : Srv2 X (rI (fun _ j => 0 < j) fun i j => .int (i % j)) bMod := srv_int (fun W ρ G H i j Q s q => by
    simp only [bMod] at q
    split at q
    · rename_i c; exact ⟨i, j, rfl, rfl, c, now q s rfl⟩
    · exact q.elim) fun x y G h => by
  cases x <;> cases y <;> first | rfl | exact absurd ⟨rfl, rfl⟩ (h _ _)
theorem sv_pow : Srv2 X (rI CPow fun i j => .int (i ^ j.toNat)) bPow := srv_int (fun W ρ G H i j Q s q => by
    simp only [bPow] at q
    split at q
    · rename_i c; exact ⟨i, j, rfl, rfl, c, now q s rfl⟩
    · exact q.elim) fun x y G h => by
  cases x <;> cases y <;> first | rfl | exact absurd ⟨rfl, rfl⟩ (h _ _)
/-- a list that may be read, changed or not -/
def lstOf (G : GS) : D → Option (List D)
  | .lst ds => some ds
  | .ref n => match G[n]? with | some (.lst ds) => some ds | _ => none
  | _ => none
theorem lstOf_at {K : PySem.W.Frag} {mg : MG} {ρ : List Addr} {G : GS} {H : Hp} (s : RS K mg ρ G H) {d : D} {ds : List D} {v : V} (h : lstOf G d = some ds) (r : RD K ρ H d v) : ∃ a vs, v = .ref a ∧ H a = some (.lst vs) ∧ RDs K ρ H ds vs := by
  cases d with
  | lst es =>
    simp only [lstOf, Option.some.injEq] at h
    subst h
    obtain ⟨a, vs, e, h1, h2⟩ := r
    exact ⟨a, vs, e, h1.1, h2⟩
  | ref n =>
    obtain ⟨a, h1, e⟩ := r
    simp only [lstOf] at h
    cases g : G[n]? with
    | none => simp [g] at h
    | some ob =>
      cases ob with
      | ins _ _ => simp [g] at h
      | dcT _ _ => simp [g] at h
      | dic _ _ => simp [g] at h
      | lst es =>
        simp only [g, Option.some.injEq] at h
        subst h
        obtain ⟨vs, h2, h3⟩ := s.at_ n a _ h1 g
        exact ⟨a, vs, e, h2, h3⟩
  | _ => simp [lstOf] at h
/-- + : ints, texts, lists (a new list that is not changed) -/
def bAdd : D → D → GS → RE D := fun x y G => match x, y with
  | .int i, .int j => .ok (.int (i + j)) G
  | .str a, .str b => if a.length + b.length ≤ maxLine then .ok (.str (a ++ b)) G else .bad
  | x, y => match lstOf G x, lstOf G y with
    | some a, some b => if a.length + b.length ≤ maxLine then .ok (.lst (a ++ b)) G else .bad
    | _, _ => .bad
def rAddA : R2 := fun x y H Q => rI0 (fun i j => .int (i + j)) x y H Q ∨ ((∃ i j, x = .str i ∧ y = .str j ∧ i.length + j.length ≤ sizeLine ∧ Q (.str (i ++ j)) H) ∨ rCat x y H Q)
theorem op_addA : OpR X (binaryOp .Add) rAddA := op_add.or (op_add_str.or op_cat)
theorem lay_lst {K : PySem.W.Frag} {mg : MG} {W : XK} {ρ : List Addr} {G : GS} {H : Hp} {xs : List D} {v : List V} {Q : VK} (h : EPD K mg W ρ H (.ok (.lst xs) G) Q) (s : RS K mg ρ G H) (r : RDs K ρ H xs v) {p : Addr} (hp : H p = none) : Q (.ref p) (upd H p (.lst v)) := by
  obtain ⟨e, s'⟩ := s.lay (.lst v) hp
  exact h ρ _ _ e s' ⟨p, v, rfl, ⟨upd_same, s.fresh hp⟩, r.ext e⟩
theorem sv_add : Srv2 X rAddA bAdd := by
  intro W ρ G H x y dx dy Q s rx ry q
  unfold bAdd at q
  split at q
  · cases (show _ = _ from rx); cases (show _ = _ from ry)
    exact .inl ⟨_, _, rfl, rfl, now q s rfl⟩
  · rename_i a b
    cases (show _ = _ from rx); cases (show _ = _ from ry)
    split at q
    · rename_i c
      refine .inr (.inl ⟨_, _, rfl, rfl, by rw [S_len, S_len, ← maxLine_eq]; exact c, ?_⟩)
      rw [S_app]
      exact now q s rfl
    · exact q.elim
  · split at q
    · rename_i a b h1 h2
      obtain ⟨l, xs, rfl, hl, r1⟩ := lstOf_at s h1 rx
      obtain ⟨m, ys, rfl, hm, r2⟩ := lstOf_at s h2 ry
      split at q
      · rename_i c
        refine .inr (.inr ⟨l, m, xs, ys, rfl, rfl, hl, hm, by rw [← r1.length, ← r2.length, ← maxLine_eq]; exact c, fun p hp => lay_lst q s (r1.append r2) hp⟩)
      · exact q.elim
    · exact q.elim
/-- * : ints, text * int, list * int -/
theorem cmul_ex : ∃ f : Int → Int → Bool, ∀ i j, f i j = ((decide (-(2 ^ 64) < i) && decide (i < 2 ^ 64)) || (decide (-(2 ^ 64) < j) && decide (j < 2 ^ 64))) := ⟨fun i j => _, fun _ _ => rfl⟩
noncomputable def cmul : Int → Int → Bool := Classical.choose cmul_ex
theorem cmul_eq (i j : Int) : cmul i j = ((decide (-(2 ^ 64) < i) && decide (i < 2 ^ 64)) || (decide (-(2 ^ 64) < j) && decide (j < 2 ^ 64))) := Classical.choose_spec cmul_ex i j
def repL {α : Type} (l : List α) : Nat → List α
  | 0 => []
  | n + 1 => l ++ repL l n
theorem repOk_ex : ∃ f : Int → Nat → Bool, ∀ n l, f n l = (decide (-(2 ^ 62) ≤ n) && decide (n ≤ 16777216) && decide (l * n.toNat ≤ maxLine)) := ⟨fun n l => _, fun _ _ => rfl⟩
noncomputable def repOk : Int → Nat → Bool := Classical.choose repOk_ex
theorem repOk_eq (n : Int) (l : Nat) : repOk n l = (decide (-(2 ^ 62) ≤ n) && decide (n ≤ 16777216) && decide (l * n.toNat ≤ maxLine)) := Classical.choose_spec repOk_ex n l
noncomputable def bMul : D → D → GS → RE D := fun x y G => match x, y with
  | .int i, .int j => if cmul i j = true then .ok (.int (i * j)) G else .bad
  | .str a, .int n => if repOk n a.length = true then .ok (.str (repL a n.toNat)) G else .bad
  | x, .int n => match lstOf G x with
    | some a => if repOk n a.length = true then .ok (.lst (repL a n.toNat)) G else .bad
    | _ => .bad
  | _, _ => .bad
def rMulS : R2 := fun x y H Q => ∃ a n, x = .str a ∧ y = .int n ∧ MulOk a n ∧ Q (.str (Txt.mul a n)) H
theorem op_mulS : OpR X (binaryOp .Mult) rMulS := by
  intro pins s σ H x y v u Q I rx ry h
  obtain ⟨a, n, rfl, rfl, hok, q⟩ := h
  obtain ⟨t, rfl⟩ := rx
  obtain ⟨t', rfl⟩ := ry
  exact SB.mul hok fun t' k => ⟨.str _, H, I.tok _, ⟨_, rfl⟩, q⟩
theorem repL_flat {α : Type} (l : List α) : ∀ n, (List.replicate n l).flatten = repL l n
  | 0 => rfl
  | n + 1 => by rw [List.replicate_succ, List.flatten_cons, repL_flat l n]; rfl
theorem foldl_rep (a : Array Nat) : ∀ (n : Nat) (b : Array Nat), ((List.replicate n a).foldl (· ++ ·) b).toList = b.toList ++ repL a.toList n
  | 0, b => by simp [repL]
  | n + 1, b => by rw [List.replicate_succ, List.foldl_cons, foldl_rep a n, repL]; simp
theorem repL_len {α : Type} (l : List α) : ∀ n, (repL l n).length = l.length * n
  | 0 => by simp [repL]
  | n + 1 => by simp only [repL, List.length_append, repL_len l n, Nat.mul_succ]; omega
theorem repL_nil {α : Type} : ∀ n, repL ([] : List α) n = []
  | 0 => rfl
  | n + 1 => by simp [repL, repL_nil n]
theorem mul_S (a : List Nat) (n : Int) : Txt.mul (S a) n = S (repL a n.toNat) := by
  unfold Txt.mul
  split
  · rename_i h
    have : n.toNat = 0 := by omega
    rw [this]; rfl
  · rename_i h
    split
    · rename_i h2
      rw [Bool.or_eq_true, beq_iff_eq, beq_iff_eq, S_len] at h2
      rcases h2 with h2 | h2
      · subst h2; show S a = S (a ++ []); rw [List.append_nil]
      · have : a = [] := List.length_eq_zero_iff.mp h2
        subst this; rw [repL_nil]
    · have := foldl_rep a.toArray n.toNat #[]
      unfold S
      congr 1
      rw [← Array.toList_inj, this]; simp
theorem mulOk_S (a : List Nat) (n : Int) (h1 : -(2 ^ 62) ≤ n) (h2 : n ≤ 16777216) (h3 : a.length * n.toNat ≤ maxLine) : MulOk (S a) n := by
  have h4 : ¬ n < -(2 ^ 63 : Int) := by omega
  have h5 : ¬ n ≥ (2 ^ 63 : Int) := by omega
  refine ⟨by rw [decide_eq_false h4, decide_eq_false h5]; rfl, fun c _ => ?_, fun c _ => ?_⟩
  · rw [S_len]
    have p : 0 < n := by omega
    have : (a.length : Int) * n ≤ 16777216 := by
      have e : (n.toNat : Int) = n := Int.toNat_of_nonneg (by omega)
      have : ((a.length * n.toNat : Nat) : Int) ≤ (maxLine : Nat) := Int.ofNat_le.mpr h3
      rw [Int.natCast_mul, e] at this
      exact this
    intro gt
    have g2 : (2 ^ 63 - 1) / n + 1 ≤ (a.length : Int) := by omega
    have g3 : (2 ^ 63 - 1 : Int) < ((2 ^ 63 - 1) / n + 1) * n := Int.lt_mul_of_ediv_lt p (by omega)
    have g4 : ((2 ^ 63 - 1) / n + 1) * n ≤ (a.length : Int) * n := Int.mul_le_mul_of_nonneg_right g2 (by omega)
    omega
  · rw [S_len]
    unfold Builtin.Str.tooLong
    rw [maxLine_eq] at h3
    simp only [decide_eq_false_iff_not, Nat.not_lt, gt_iff_lt]
    exact h3
def rMulA : R2 := fun x y H Q => rI CMul (fun i j => .int (i * j)) x y H Q ∨ (rMulS x y H Q ∨ rRep x y H Q)
theorem op_mulA : OpR X (binaryOp .Mult) rMulA := op_mul.or (op_mulS.or op_rep)
theorem RDs.rep {K : PySem.W.Frag} {ρ : List Addr} {H : Hp} {ds : List D} {vs : List V} (r : RDs K ρ H ds vs) : ∀ n, RDs K ρ H (repL ds n) (repL vs n)
  | 0 => rfl
  | n + 1 => r.append (RDs.rep r n)
theorem sv_mul : Srv2 X rMulA bMul := by
  intro W ρ G H x y dx dy Q s rx ry q
  unfold bMul at q
  split at q
  · rename_i i j
    cases (show _ = _ from rx); cases (show _ = _ from ry)
    split at q
    · rename_i c
      simp only [cmul_eq, Bool.or_eq_true, Bool.and_eq_true, decide_eq_true_eq] at c
      exact .inl ⟨_, _, rfl, rfl, c, now q s rfl⟩
    · exact q.elim
  · rename_i a n
    cases (show _ = _ from rx); cases (show _ = _ from ry)
    split at q
    · rename_i c
      simp only [repOk_eq, Bool.and_eq_true, decide_eq_true_eq, and_assoc] at c
      refine .inr (.inl ⟨_, _, rfl, rfl, mulOk_S a n c.1 c.2.1 c.2.2, ?_⟩)
      rw [mul_S]
      exact now q s rfl
    · exact q.elim
  · rename_i n _ _
    cases (show _ = _ from ry)
    split at q
    · rename_i a h1
      obtain ⟨l, xs, rfl, hl, r1⟩ := lstOf_at s h1 rx
      split at q
      · rename_i c
        simp only [repOk_eq, Bool.and_eq_true, decide_eq_true_eq, and_assoc] at c
        refine .inr (.inr ⟨l, n, xs, rfl, rfl, hl, by omega, by omega, by rw [← r1.length, ← maxLine_eq]; exact c.2.2, fun p hp => ?_⟩)
        rw [repL_flat]
        exact lay_lst q s (r1.rep _) hp
      · exact q.elim
    · exact q.elim
  · exact q.elim
/-! ## comparisons -/
def cLt : D → D → GS → RE D := fun x y G => match x, y with
  | .int i, .int j => .ok (.bl (decide (i < j))) G
  | _, _ => .bad
def cLe : D → D → GS → RE D := fun x y G => match x, y with
  | .int i, .int j => .ok (.bl (decide (i ≤ j))) G
  | _, _ => .bad
def cGt : D → D → GS → RE D := fun x y G => match x, y with
  | .int i, .int j => .ok (.bl (decide (j < i))) G
  | _, _ => .bad
def cGe : D → D → GS → RE D := fun x y G => match x, y with
  | .int i, .int j => .ok (.bl (decide (j ≤ i))) G
  | _, _ => .bad
theorem sv_lt : Srv2 X (rI0 fun i j => .bl (decide (i < j))) cLt := srv_int (fun W ρ G H i j Q s q => ⟨i, j, rfl, rfl, now q s rfl⟩) fun x y G h => by
  cases x <;> cases y <;> first | rfl | exact absurd ⟨rfl, rfl⟩ (h _ _)
theorem sv_le : Srv2 X (rI0 fun i j => .bl (decide (i ≤ j))) cLe := srv_int (fun W ρ G H i j Q s q => ⟨i, j, rfl, rfl, now q s rfl⟩) fun x y G h => by
  cases x <;> cases y <;> first | rfl | exact absurd ⟨rfl, rfl⟩ (h _ _)
theorem sv_gt : Srv2 X (rI0 fun i j => .bl (decide (j < i))) cGt := srv_int (fun W ρ G H i j Q s q => ⟨i, j, rfl, rfl, now q s rfl⟩) fun x y G h => by
  cases x <;> cases y <;> first | rfl | exact absurd ⟨rfl, rfl⟩ (h _ _)
theorem sv_ge : Srv2 X (rI0 fun i j => .bl (decide (j ≤ i))) cGe := srv_int (fun W ρ G H i j Q s q => ⟨i, j, rfl, rfl, now q s rfl⟩) fun x y G h => by
  cases x <;> cases y <;> first | rfl | exact absurd ⟨rfl, rfl⟩ (h _ _)
/-- flat data, as a value -/
def flat : D → Option V
  | .non => some .non
  | .bl b => some (.bl b)
  | .int i => some (.int i)
  | .str s => some (.str (S s))
  | _ => none
theorem flat_is {K : PySem.W.Frag} {ρ : List Addr} {H : Hp} {d : D} {v u : V} (h : flat d = some u) (r : RD K ρ H d v) : v = u := by
  cases d <;> simp only [flat, Option.some.injEq, reduceCtorEq] at h <;> subst h <;> exact r
theorem flat_flatV {d : D} {u : V} (h : flat d = some u) : flatV u = true := by
  cases d <;> simp only [flat, Option.some.injEq, reduceCtorEq] at h <;> subst h <;> rfl
/-- == of data as Python has it (True == 1), refs through the store one level deep at a time -/
def pyD (k : Nat) (G : GS) : D → Option PyData := match k with
  | 0 => fun _ => none
  | k + 1 => fun d => match d with
    | .non => some .none
    | .bl b => some (.bool b)
    | .int i => some (.int i)
    | .str s => some (.str (S s))
    | .tup ds => (ds.mapM (pyD k G)).map .tuple
    | .lst ds => (ds.mapM (pyD k G)).map .list
    | .ref n => match G[n]? with
      | some (.lst ds) => (ds.mapM (pyD k G)).map .list
      | _ => none
    | _ => none
theorem mapM_cons' {α β : Type} {f : α → Option β} {a : α} {as : List α} {r : List β} (h : (a :: as).mapM f = some r) : ∃ b bs, f a = some b ∧ as.mapM f = some bs ∧ r = b :: bs := by
  rw [List.mapM_cons] at h
  cases e : f a with
  | none => simp [e] at h
  | some b =>
    cases e2 : as.mapM f with
    | none => simp [e, e2] at h
    | some bs => simp [e, e2] at h; exact ⟨b, bs, rfl, rfl, h.symm⟩
theorem dpAll_of {K : PySem.W.Frag} {ρ : List Addr} {H : Hp} {f : D → Option PyData} (hf : ∀ d p v, f d = some p → RD K ρ H d v → Dp K H v p) : ∀ {ds : List D} {ps : List PyData} {vs : List V}, ds.mapM f = some ps → RDs K ρ H ds vs → DpAll K H vs ps
  | [], ps, vs, h, r => by
    cases (show _ = _ from r)
    simp at h; subst h; exact .nil
  | d :: ds, ps, vs, h, ⟨v, r, e, r1, r2⟩ => by
    subst e
    obtain ⟨b, bs, h1, h2, rfl⟩ := mapM_cons' h
    exact .cons (hf _ _ _ h1 r1) (dpAll_of hf h2 r2)
theorem pyD_dp {K : PySem.W.Frag} {mg : MG} {ρ : List Addr} {G : GS} {H : Hp} (s : RS K mg ρ G H) : ∀ (k : Nat) (d : D) (p : PyData) (v : V), pyD k G d = some p → RD K ρ H d v → Dp K H v p
  | 0, d, p, v, h, _ => by simp [pyD] at h
  | k + 1, d, p, v, h, r => by
    cases d with
    | non => simp only [pyD, Option.some.injEq] at h; subst h; cases (show _ = _ from r); exact .non
    | bl b => simp only [pyD, Option.some.injEq] at h; subst h; cases (show _ = _ from r); exact .bl _
    | int i => simp only [pyD, Option.some.injEq] at h; subst h; cases (show _ = _ from r); exact .int _
    | str s => simp only [pyD, Option.some.injEq] at h; subst h; cases (show _ = _ from r); exact .str _
    | tup ds =>
      simp only [pyD, Option.map_eq_some_iff] at h
      obtain ⟨ps, h1, rfl⟩ := h
      obtain ⟨a, vs, rfl, t, r⟩ := r
      exact .tup t.sq (dpAll_of (fun d p v a b => pyD_dp s k d p v a b) h1 r)
    | lst ds =>
      simp only [pyD, Option.map_eq_some_iff] at h
      obtain ⟨ps, h1, rfl⟩ := h
      obtain ⟨a, vs, rfl, t, r⟩ := r
      exact .lst (.of t.1) (dpAll_of (fun d p v a b => pyD_dp s k d p v a b) h1 r)
    | ref n =>
      simp only [pyD] at h
      obtain ⟨a, h1, rfl⟩ := r
      cases g : G[n]? with
      | none => simp [g] at h
      | some ob =>
        cases ob with
        | ins _ _ => simp [g] at h
        | dcT _ _ => simp [g] at h
        | dic _ _ => simp [g] at h
        | lst ds =>
          simp only [g, Option.map_eq_some_iff] at h
          obtain ⟨ps, h2, rfl⟩ := h
          obtain ⟨vs, h3, h4⟩ := s.at_ n a _ h1 g
          exact .lst (.of h3) (dpAll_of (fun d p v a b => pyD_dp s k d p v a b) h2 h4)
    | dic _ _ => simp [pyD] at h
    | exn _ _ _ _ => simp [pyD] at h
    | scr _ => simp [pyD] at h
    | key _ => simp [pyD] at h
def cEqB (neg : Bool) : D → D → GS → RE D := fun x y G => match x, y with
  | .int i, .int j => .ok (.bl (xor neg (decide (i = j)))) G
  | .str a, .str b => .ok (.bl (xor neg (decide (a = b)))) G
  | .bl a, .bl b => .ok (.bl (xor neg (decide (a = b)))) G
  | x, y => match pyD 12 G x, pyD 12 G y with
    | some a, some b => if (SeqAt.shaped a && SeqAt.shaped b) = true then .ok (.bl (xor neg (PyData.eqv a b))) G else .bad
    | _, _ => .bad
def rEqA (K : PySem.W.Frag) : R2 := fun x y H Q => rEq x y H Q ∨ rEqD K x y H Q
def rNeA (K : PySem.W.Frag) : R2 := fun x y H Q => rNe x y H Q ∨ rNeD K x y H Q
theorem op_eqA (hu : X.A.units + 64 < cLine) : OpR X (compareOp .Eq) (rEqA X.K) := op_eq.or (op_eqD hu)
theorem op_neA (hu : X.A.units + 64 < cLine) : OpR X (compareOp .NotEq) (rNeA X.K) := op_ne.or (op_neD hu)
theorem dec_iff {p q : Prop} [Decidable p] [Decidable q] (h : p ↔ q) : decide p = decide q := by simp [h]
theorem sv_eq : Srv2 X (rEqA X.K) (cEqB false) := by
  intro W ρ G H x y dx dy Q s rx ry q
  unfold cEqB at q
  split at q
  · cases (show _ = _ from rx); cases (show _ = _ from ry)
    refine .inl ⟨rfl, ?_⟩
    rw [show ∀ i j : Int, decide (V.int i = V.int j) = decide (i = j) from fun i j => dec_iff ⟨fun e => by injection e, fun e => by rw [e]⟩]
    have := now q s (v := V.bl (xor false (decide (_ = _)))) rfl
    simpa using this
  · cases (show _ = _ from rx); cases (show _ = _ from ry)
    refine .inl ⟨rfl, ?_⟩
    rw [S_dec]
    have := now q s (v := V.bl (xor false (decide (_ = _)))) rfl
    simpa using this
  · cases (show _ = _ from rx); cases (show _ = _ from ry)
    refine .inl ⟨rfl, ?_⟩
    rw [show ∀ i j : Bool, decide (V.bl i = V.bl j) = decide (i = j) from fun i j => dec_iff ⟨fun e => by injection e, fun e => by rw [e]⟩]
    have := now q s (v := V.bl (xor false (decide (_ = _)))) rfl
    simpa using this
  · split at q
    · rename_i a b h1 h2
      split at q
      · rename_i c
        rw [Bool.and_eq_true] at c
        refine .inr ⟨a, b, pyD_dp s 12 _ _ _ h1 rx, pyD_dp s 12 _ _ _ h2 ry, c.1, c.2, ?_⟩
        have := now q s (v := V.bl (xor false (PyData.eqv a b))) rfl
        simpa using this
      · exact q.elim
    · exact q.elim
theorem sv_ne : Srv2 X (rNeA X.K) (cEqB true) := by
  intro W ρ G H x y dx dy Q s rx ry q
  unfold cEqB at q
  split at q
  · cases (show _ = _ from rx); cases (show _ = _ from ry)
    refine .inl ⟨rfl, ?_⟩
    rw [show ∀ i j : Int, decide (V.int i = V.int j) = decide (i = j) from fun i j => dec_iff ⟨fun e => by injection e, fun e => by rw [e]⟩]
    have := now q s (v := V.bl (xor true (decide (_ = _)))) rfl
    simpa using this
  · cases (show _ = _ from rx); cases (show _ = _ from ry)
    refine .inl ⟨rfl, ?_⟩
    rw [S_dec]
    have := now q s (v := V.bl (xor true (decide (_ = _)))) rfl
    simpa using this
  · cases (show _ = _ from rx); cases (show _ = _ from ry)
    refine .inl ⟨rfl, ?_⟩
    rw [show ∀ i j : Bool, decide (V.bl i = V.bl j) = decide (i = j) from fun i j => dec_iff ⟨fun e => by injection e, fun e => by rw [e]⟩]
    have := now q s (v := V.bl (xor true (decide (_ = _)))) rfl
    simpa using this
  · split at q
    · rename_i a b h1 h2
      split at q
      · rename_i c
        rw [Bool.and_eq_true] at c
        refine .inr ⟨a, b, pyD_dp s 12 _ _ _ h1 rx, pyD_dp s 12 _ _ _ h2 ry, c.1, c.2, ?_⟩
        have := now q s (v := V.bl (xor true (PyData.eqv a b))) rfl
        simpa using this
      · exact q.elim
    · exact q.elim
end
end Dl
namespace Dl
open PySem L2

section
variable {X : Cx}
theorem EPD.of_eq {K : PySem.W.Frag} {mg : MG} {W : XK} {ρ : List Addr} {H : Hp} {r r' : RE D} {Q : VK} (h : EPD K mg W ρ H r Q) (e : r = r') : EPD K mg W ρ H r' Q := e ▸ h
/-! ## is None -/
def cIsN (neg : Bool) : D → GS → RE D := fun x G => match x with
  | .non => .ok (.bl (!neg)) G
  | _ => .ok (.bl neg) G
theorem rd_non {K : PySem.W.Frag} {ρ : List Addr} {H : Hp} {d : D} (h : RD K ρ H d .non) : d = .non := by
  cases d with
  | non => rfl
  | tup _ => obtain ⟨_, _, e, _⟩ := h; cases e
  | lst _ => obtain ⟨_, _, e, _⟩ := h; cases e
  | dic _ _ => obtain ⟨_, _, e, _⟩ := h; cases e
  | exn _ _ _ _ => obtain ⟨e, _⟩ := h; cases e
  | ref _ => obtain ⟨_, _, e⟩ := h; cases e
  | scr _ => obtain ⟨_, e, _⟩ := h; cases e
  | key _ => obtain ⟨_, e, _⟩ := h; cases e
  | _ => cases (show _ = _ from h)
theorem cIsN_ok (neg : Bool) {d : D} (G : GS) {K : PySem.W.Frag} {ρ : List Addr} {H : Hp} {v : V} (r : RD K ρ H d v) : cIsN neg d G = .ok (.bl (xor neg (decide (v = .non)))) G := by
  by_cases h : v = .non
  · subst h
    cases rd_non r
    simp [cIsN]
  · cases d with
    | non => exact absurd r h
    | _ => simp [cIsN, h]
variable {W : WX}
theorem le_isN {a : Expr} {da : DE} {j pos pos'} (ha : PEd X W a da) : PEd X W (.Compare a [.Is] [.Constant .none j pos'] pos) (eUn (cIsN false) da) := by
  refine (pe_cmp (pc_isN ha) (by rfl)).le fun σ H Q ⟨ρ, σd, G, c, h⟩ => ⟨ρ, σd, G, c, (EP'.bind h).mono fun _ H1 _ _ _ _ _ _ _ ⟨ρ1, G1, a, e1, s1, d1, _, h1⟩ => ?_⟩
  have := now (EPD.of_eq h1 (cIsN_ok false G1 d1)) s1 rfl
  simpa using this
theorem le_notN {a : Expr} {da : DE} {j pos pos'} (ha : PEd X W a da) : PEd X W (.Compare a [.IsNot] [.Constant .none j pos'] pos) (eUn (cIsN true) da) := by
  refine (pe_cmp (pc_notN ha) (by rfl)).le fun σ H Q ⟨ρ, σd, G, c, h⟩ => ⟨ρ, σd, G, c, (EP'.bind h).mono fun _ H1 _ _ _ _ _ _ _ ⟨ρ1, G1, a, e1, s1, d1, _, h1⟩ => ?_⟩
  have := now (EPD.of_eq h1 (cIsN_ok true G1 d1)) s1 rfl
  simpa using this

/-! ## in -/
def seqOf (G : GS) : D → Option (List D)
  | .tup ds => some ds
  | .key ns => some (ns.map D.int)
  | d => lstOf G d
theorem seqOf_at {K : PySem.W.Frag} {mg : MG} {ρ : List Addr} {G : GS} {H : Hp} (s : RS K mg ρ G H) {d : D} {ds : List D} {v : V} (h : seqOf G d = some ds) (r : RD K ρ H d v) : ∃ a vs, v = .ref a ∧ (SqL K H a vs ∨ SqT K H a vs) ∧ RDs K ρ H ds vs := by
  cases d with
  | tup es =>
    simp only [seqOf, Option.some.injEq] at h
    subst h
    obtain ⟨a, vs, e, h1, h2⟩ := r
    exact ⟨a, vs, e, .inr h1.sq, h2⟩
  | key ns =>
    simp only [seqOf, Option.some.injEq] at h
    subst h
    obtain ⟨a, e, h1, h2⟩ := r
    exact ⟨a, _, e, .inr (show TupAt K ρ H a (ns.map V.int) from .inl ⟨.inl h1, h2⟩).sq, RDs.ints⟩
  | lst es =>
    obtain ⟨a, vs, e, h1, h2⟩ := lstOf_at s (d := .lst es) h r
    exact ⟨a, vs, e, .inl (.of h1), h2⟩
  | ref n =>
    obtain ⟨a, vs, e, h1, h2⟩ := lstOf_at s (d := .ref n) h r
    exact ⟨a, vs, e, .inl (.of h1), h2⟩
  | _ => simp [seqOf, lstOf] at h
/-- substring -/
def subS (a b : List Nat) : Bool := !(Builtin.Str.occurrences (S b) (S a) 0 (S b).length 1).isEmpty
theorem subS_one (c : Nat) (b : List Nat) : subS [c] b = decide (c ∈ b) := by
  have := PySem.StrLaws.found_one (S b) c
  rw [S_cps] at this
  exact this
def flats (ds : List D) : Option (List V) := ds.mapM flat
def cIn (neg : Bool) : D → D → GS → RE D := fun x y G => match x, y with
  | .str a, .str b => .ok (.bl (xor neg (subS a b))) G
  | x, y => match flat x, (seqOf G y).bind flats with
    | some u, some vs => .ok (.bl (xor neg (inV u vs))) G
    | _, _ => .bad
def rInA (K : PySem.W.Frag) (neg : Bool) : R2 := fun x y H Q => (∃ i j, x = .str i ∧ y = .str j ∧ Q (.bl (xor neg (!(Builtin.Str.occurrences j i 0 j.length 1).isEmpty))) H) ∨ rIn K neg x y H Q
theorem op_inA : OpR X (compareOp .In) (rInA X.K false) := by
  intro pins s σ H x y v u Q I rx ry h
  rcases h with ⟨i, j, rfl, rfl, q⟩ | h
  · rw [Bool.false_xor] at q
    exact op_in_str pins s σ H _ _ v u Q I rx ry ⟨i, j, rfl, rfl, q⟩
  · exact op_in_seq pins s σ H x y v u Q I rx ry h
theorem op_notInA : OpR X (compareOp .NotIn) (rInA X.K true) := by
  intro pins s σ H x y v u Q I rx ry h
  rcases h with ⟨i, j, rfl, rfl, q⟩ | h
  · rw [Bool.true_xor] at q
    exact op_notIn_str pins s σ H _ _ v u Q I rx ry ⟨i, j, rfl, rfl, q⟩
  · exact op_notIn_seq pins s σ H x y v u Q I rx ry h
theorem flats_is {K : PySem.W.Frag} {ρ : List Addr} {H : Hp} : ∀ {ds : List D} {us vs : List V}, flats ds = some us → RDs K ρ H ds vs → vs = us ∧ us.all flatV = true
  | [], us, vs, h, r => by
    cases (show _ = _ from r)
    simp [flats] at h; subst h; exact ⟨rfl, rfl⟩
  | d :: ds, us, vs, h, ⟨v, r', e, r1, r2⟩ => by
    subst e
    obtain ⟨b, bs, h1, h2, rfl⟩ := mapM_cons' h
    obtain ⟨z1, z2⟩ := flats_is h2 r2
    rw [flat_is h1 r1, z1]
    refine ⟨rfl, ?_⟩
    rw [List.all_cons, flat_flatV h1, z2]; rfl
theorem sv_in (neg : Bool) : Srv2 X (rInA X.K neg) (cIn neg) := by
  intro W ρ G H x y dx dy Q s rx ry q
  unfold cIn at q
  split at q
  · cases (show _ = _ from rx); cases (show _ = _ from ry)
    exact .inl ⟨_, _, rfl, rfl, now q s rfl⟩
  · split at q
    · rename_i u us h1 h2
      rw [Option.bind_eq_some_iff] at h2
      obtain ⟨ds, h3, h4⟩ := h2
      obtain ⟨a, vs, rfl, sq, r⟩ := seqOf_at s h3 ry
      obtain ⟨e1, e2⟩ := flats_is h4 r
      subst e1
      have ex := flat_is h1 rx
      subst ex
      refine .inr ⟨a, vs, rfl, sq, flat_flatV h1, e2, ?_⟩
      have := now q s rfl
      cases neg
      · simpa using this
      · simpa using this
    · exact q.elim
/-! ## o[i] -/
def bIx : D → D → GS → RE D := fun x y G => match y with
  | .int k => match x with
    | .str s => if s.length ≤ maxLine then match atI s k with
      | some c => .ok (.str [c]) G
      | none => .bad
      else .bad
    | .scr ns => match atI ns k with
      | some i => .ok (.int i) G
      | none => .bad
    | x => match seqOf G x with
      | some ds => match atI ds k with
        | some d => .ok d G
        | none => .bad
      | none => .bad
  | _ => .bad
theorem atI_rd {K : PySem.W.Frag} {ρ : List Addr} {H : Hp} {ds : List D} {vs : List V} {k : Int} {d : D} (r : RDs K ρ H ds vs) (h : atI ds k = some d) : ∃ v, atI vs k = some v ∧ RD K ρ H d v := by
  unfold atI at h ⊢
  rw [← r.length]
  cases e : ixN ds.length k with
  | none => rw [e] at h; cases h
  | some j =>
    rw [e] at h
    exact r.get (i := j) h
theorem sv_ix : Srv2 X (rIx X.K) bIx := by
  intro W ρ G H x y dx dy Q s rx ry q
  unfold bIx at q
  split at q
  · rename_i k
    cases (show _ = _ from ry)
    split at q
    · rename_i l
      cases (show _ = _ from rx)
      split at q
      · rename_i hl
        split at q
        · rename_i c hc
          refine .inr (.inr ⟨S l, k, c, rfl, rfl, by rw [S_len, ← maxLine_eq]; exact hl, by rw [S_cps]; exact hc, ?_⟩)
          exact now q s rfl
        · exact q.elim
      · exact q.elim
    · rename_i ns
      split at q
      · rename_i i hi
        obtain ⟨a, rfl, la⟩ := rx
        refine .inl ⟨a, _, k, V.int i, rfl, rfl, la.sq, ?_, now q s rfl⟩
        unfold atI at hi ⊢
        rw [List.length_map]
        cases e : ixN ns.length k with
        | none => rw [e] at hi; cases hi
        | some j =>
          rw [e] at hi
          simp only [Option.bind_some] at hi ⊢
          rw [List.getElem?_map, hi]; rfl
      · exact q.elim
    · split at q
      · rename_i ds h1
        split at q
        · rename_i d hd
          obtain ⟨a, vs, rfl, sq, r⟩ := seqOf_at s h1 rx
          obtain ⟨v, hv, rv⟩ := atI_rd r hd
          rcases sq with sq | sq
          · exact .inl ⟨a, vs, k, v, rfl, rfl, sq, hv, now q s rv⟩
          · exact .inr (.inl ⟨a, vs, k, v, rfl, rfl, sq, hv, now q s rv⟩)
        · exact q.elim
      · exact q.elim
  · exact q.elim
/-! ## slices -/
def cutL {α : Type} (l : List α) (lo hi : Option Int) : List α := (l.drop (HT.sIx l.length 0 lo)).take (HT.sIx l.length l.length hi - HT.sIx l.length 0 lo)
theorem cutS_S (l : List Nat) (lo hi : Option Int) : cutS (S l) lo hi = S (cutL l lo hi) := by
  unfold cutS cutL
  rw [S_cps, S_len]; rfl
theorem RDs.cutL {K : PySem.W.Frag} {ρ : List Addr} {H : Hp} {ds : List D} {vs : List V} (r : RDs K ρ H ds vs) (lo hi : Option Int) : RDs K ρ H (Dl.cutL ds lo hi) (cutV vs lo hi) := by
  unfold Dl.cutL cutV
  rw [r.length]
  exact (r.drop _).take _
abbrev DO := PEnv → GS → RE (Option Int)
def oNone : DO := fun _ G => .ok none G
def oSome (e : DE) : DO := fun σ G => bindE (e σ G) fun d G1 => match d with | .int i => .ok (some i) G1 | _ => .bad
def tO (K : PySem.W.Frag) (mg : MG) (W : WX) (r : DO) : TO := fun σ H Q => ∃ ρ σd G, Ct K mg ρ σd G σ H ∧ EP' K mg (fun _ _ a b => a = b) (WA W σ) ρ H (r σd G) Q
abbrev POd (X : Cx) (W : WX) (e : Option Expr) (r : DO) : Prop := PO X e (tO X.K X.mg W r)
theorem _root_.L2.PO.le {e : Option Expr} {t t' : TO} (h : PO X e t) (k : ∀ σ H Q, t' σ H Q → t σ H Q) : PO X e t' := ⟨fun pins s σ H Q I q => h.run pins s σ H Q I (k σ H Q q)⟩
theorem le_onone : POd X W none oNone := (po_none).le fun σ H Q ⟨ρ, σd, G, c, h⟩ => h ρ H none (.refl _ _) c.rs rfl
theorem le_osome {e : Expr} {d : DE} (he : PEd X W e d) : POd X W (some e) (oSome d) := by
  refine (po_some he).le fun σ H Q ⟨ρ, σd, G, c, h⟩ => ⟨ρ, σd, G, c, (EP'.bind h).mono fun _ H1 _ _ _ _ _ _ _ ⟨ρ1, G1, a, e1, s1, d1, _, h1⟩ => ?_⟩
  cases a with
  | int i => exact ⟨i, d1, h1 ρ1 H1 _ (.refl _ _) s1 rfl⟩
  | _ => exact h1.elim
def bSl (x : D) (lo hi : Option Int) (G : GS) : RE D := match x with
  | .str s => if s.length ≤ maxLine then .ok (.str (cutL s lo hi)) G else .bad
  | .tup ds => .ok (.tup (cutL ds lo hi)) G
  | x => match lstOf G x with
    | some ds => .ok (.lst (cutL ds lo hi)) G
    | none => .bad
def eSl (e : DE) (lo hi : DO) : DE := fun σ G => bindE (e σ G) fun x G1 => bindE (lo σ G1) fun l G2 => bindE (hi σ G2) fun h G3 => bSl x l h G3
def rSlX (K : PySem.W.Frag) : V → Option Int → Option Int → Hp → VK → Prop := fun x lo hi H Q => rSlS x lo hi H Q ∨ rSlL K x lo hi H Q
theorem sl_X : SlR X (rSlX X.K) := sl_str.or sl_list
theorem le_sl {e : Expr} {lo hi : Option Expr} {d : DE} {dl dh : DO} {p2 pos : Pos} (he : PEd X W e d) (hl : POd X W lo dl) (hh : POd X W hi dh) : PEd X W (.Subscript e (.Slice lo hi none p2) pos) (eSl d dl dh) := by
  refine (pe_slice (sl_X.or sl_tupA) he hl hh).le fun σ H Q ⟨ρ, σd, G, c, h⟩ => ⟨ρ, σd, G, c, (EP'.bind h).mono fun _ H1 _ _ v1 _ _ _ _ ⟨ρ1, G1, a1, e1, s1, d1, _, h1⟩ => ?_⟩
  refine ⟨ρ1, σd, G1, c.ext e1 s1, (EP'.bind h1).mono fun _ H2 _ _ v2 _ _ _ _ ⟨ρ2, G2, a2, e2, s2, d2, _, h2⟩ => ?_⟩
  refine ⟨ρ2, σd, G2, (c.ext e1 s1).ext e2 s2, (EP'.bind h2).mono fun _ H3 _ _ v3 _ _ _ _ ⟨ρ3, G3, a3, e3, s3, d3, _, h3⟩ => ?_⟩
  cases d2; cases d3
  have d1' := (d1.ext e2).ext e3
  unfold bSl at h3
  split at h3
  · rename_i l _
    cases (show _ = _ from d1')
    split at h3
    · rename_i hl
      refine .inl (.inl ⟨S _, rfl, by rw [S_len, ← maxLine_eq]; exact hl, ?_⟩)
      rw [cutS_S]
      exact now h3 s3 rfl
    · exact h3.elim
  · rename_i ds
    obtain ⟨a, vs, rfl, t, r⟩ := d1'
    refine .inr ⟨a, vs, rfl, t.sq, fun hw => ?_, fun hw p hp => ?_⟩
    · have r2 := r.cutL v2 v3
      have e : cutV vs v2 v3 = vs := by
        unfold cutV
        rw [hw.1, hw.2]; simp
      rw [e] at r2
      exact now h3 s3 ⟨a, vs, rfl, t, r2⟩
    · obtain ⟨e, s'⟩ := s3.lay (.tup (cutV vs v2 v3)) hp
      exact h3 _ _ _ e s' ⟨p, _, rfl, .inl ⟨.inl upd_same, s3.fresh hp⟩, (r.cutL v2 v3).ext e⟩
  · split at h3
    · rename_i ds hd
      obtain ⟨a, vs, rfl, hv, r⟩ := lstOf_at s3 hd d1'
      exact .inl (.inr ⟨a, vs, rfl, .of hv, fun p hp => lay_lst h3 s3 (r.cutL _ _) hp⟩)
    · exact h3.elim
end
end Dl
namespace Dl
open PySem L2

section
variable {X : Cx} {W : WX}
/-! ## built-in functions -/
def fLen : List D → GS → RE D := fun xs G => match xs with
  | [.str s] => if s.length ≤ maxLine then .ok (.int s.length) G else .bad
  | [.scr ns] => .ok (.int ns.length) G
  | [x] => match seqOf G x with
    | some ds => .ok (.int ds.length) G
    | none => .bad
  | _ => .bad
theorem rds1 {K : PySem.W.Frag} {ρ : List Addr} {H : Hp} {d : D} {vs : List V} (r : RDs K ρ H [d] vs) : ∃ v, vs = [v] ∧ RD K ρ H d v := by
  obtain ⟨v, r', e, h1, h2⟩ := r
  cases (show _ = _ from h2)
  exact ⟨v, e, h1⟩
theorem rds2 {K : PySem.W.Frag} {ρ : List Addr} {H : Hp} {d e : D} {vs : List V} (r : RDs K ρ H [d, e] vs) : ∃ v u, vs = [v, u] ∧ RD K ρ H d v ∧ RD K ρ H e u := by
  obtain ⟨v, r', e, h1, h2⟩ := r
  obtain ⟨u, e2, h3⟩ := rds1 h2
  subst e2
  exact ⟨v, u, e, h1, h3⟩
theorem sv_len : SrvC X (fun xs H Q => ∃ x n, xs = [x] ∧ LenV X.K x H n ∧ Q (.int n) H) fLen := by
  intro W ρ G H xs dxs Q s r q
  unfold fLen at q
  split at q
  · obtain ⟨v, rfl, r1⟩ := rds1 r
    cases (show _ = _ from r1)
    split at q
    · rename_i hl
      exact ⟨V.str (S _), _, rfl, (show (S _).length ≤ sizeLine ∧ _ = (S _).length from ⟨by rw [S_len, ← maxLine_eq]; exact hl, rfl⟩), by rw [S_len]; exact now q s rfl⟩
    · exact q.elim
  · obtain ⟨v, rfl, r1⟩ := rds1 r
    obtain ⟨a, rfl, la⟩ := r1
    exact ⟨_, _, rfl, .inl ⟨_, la.sq, rfl⟩, by rw [List.length_map]; exact now q s rfl⟩
  · obtain ⟨v, rfl, r1⟩ := rds1 r
    split at q
    · rename_i ds h1
      obtain ⟨a, vs, rfl, sq, rv⟩ := seqOf_at s h1 r1
      refine ⟨_, vs.length, rfl, ?_, by rw [← rv.length]; exact now q s rfl⟩
      rcases sq with sq | sq
      · exact .inl ⟨vs, sq, rfl⟩
      · exact .inr ⟨vs, sq, rfl⟩
    · exact q.elim
  · exact q.elim
def fMax : List D → GS → RE D := fun xs G => match xs with
  | [.int i, .int j] => .ok (.int (if j > i then j else i)) G
  | _ => .bad
def fMin : List D → GS → RE D := fun xs G => match xs with
  | [.int i, .int j] => .ok (.int (if j < i then j else i)) G
  | _ => .bad
theorem sv_max : SrvC X (fun xs H Q => ∃ i j, xs = [.int i, .int j] ∧ Q (.int (if j > i then j else i)) H) fMax := by
  intro W ρ G H xs dxs Q s r q
  unfold fMax at q
  split at q
  · obtain ⟨v, u, rfl, r1, r2⟩ := rds2 r
    cases (show _ = _ from r1); cases (show _ = _ from r2)
    exact ⟨_, _, rfl, now q s rfl⟩
  · exact q.elim
theorem sv_min : SrvC X (fun xs H Q => ∃ i j, xs = [.int i, .int j] ∧ Q (.int (if j < i then j else i)) H) fMin := by
  intro W ρ G H xs dxs Q s r q
  unfold fMin at q
  split at q
  · obtain ⟨v, u, rfl, r1, r2⟩ := rds2 r
    cases (show _ = _ from r1); cases (show _ = _ from r2)
    exact ⟨_, _, rfl, now q s rfl⟩
  · exact q.elim
/-- int(..) of an int, a bool, a text of digits -/
def intOf (s : List Nat) : Option Int := PySem.intText? (S s)
def fInt : List D → GS → RE D := fun xs G => match xs with
  | [.int i] => .ok (.int i) G
  | [.bl b] => .ok (.int (if b then 1 else 0)) G
  | [.str s] => match intOf s with
    | some n => if s.length ≤ 640 then .ok (.int n) G else .bad
    | none => .bad
  | _ => .bad
def rIntA : List V → Hp → VK → Prop := fun xs H Q => ((∃ i, xs = [.int i] ∧ Q (.int i) H) ∨ ∃ k, xs = [.bl k] ∧ Q (.int (if k then 1 else 0)) H) ∨ ∃ a n, xs = [.str a] ∧ PySem.intText? a = some n ∧ a.length ≤ 640 ∧ Q (.int n) H
theorem call_intA : CallR X (.type "int") rIntA := CallR.or call_int1 call_int_str
theorem sv_int : SrvC X rIntA fInt := by
  intro W ρ G H xs dxs Q s r q
  unfold fInt at q
  split at q
  · obtain ⟨v, rfl, r1⟩ := rds1 r
    cases (show _ = _ from r1)
    exact .inl (.inl ⟨_, rfl, now q s rfl⟩)
  · obtain ⟨v, rfl, r1⟩ := rds1 r
    cases (show _ = _ from r1)
    exact .inl (.inr ⟨_, rfl, now q s rfl⟩)
  · obtain ⟨v, rfl, r1⟩ := rds1 r
    cases (show _ = _ from r1)
    split at q
    · rename_i n hn
      split at q
      · rename_i hl
        exact .inr ⟨_, n, rfl, hn, by rw [S_len]; exact hl, now q s rfl⟩
      · exact q.elim
    · exact q.elim
  · exact q.elim
def fAbs : List D → GS → RE D := fun xs G => match xs with
  | [.int i] => .ok (.int (if i < 0 then -i else i)) G
  | _ => .bad
theorem sv_abs : SrvC X (fun xs H Q => ∃ i, xs = [.int i] ∧ Q (.int (if i < 0 then -i else i)) H) fAbs := by
  intro W ρ G H xs dxs Q s r q
  unfold fAbs at q
  split at q
  · obtain ⟨v, rfl, r1⟩ := rds1 r
    cases (show _ = _ from r1)
    exact ⟨_, rfl, now q s rfl⟩
  · exact q.elim
/-- str(..) of an int -/
def strI (i : Int) : List Nat := (toString i : Str).cps.toList
def fStr : List D → GS → RE D := fun xs G => match xs with
  | [.int i] => if i.natAbs.log2 < 1920 then .ok (.str (strI i)) G else .bad
  | _ => .bad
theorem S_back (x : Str) : S x.cps.toList = x := by simp [S]
theorem sv_str : SrvC X (fun xs H Q => ∃ i, xs = [.int i] ∧ i.natAbs.log2 < 1920 ∧ Q (.str (toString i)) H) fStr := by
  intro W ρ G H xs dxs Q s r q
  unfold fStr at q
  split at q
  · obtain ⟨v, rfl, r1⟩ := rds1 r
    cases (show _ = _ from r1)
    split at q
    · rename_i hl
      exact ⟨_, rfl, hl, now q s (by show _ = V.str (S (strI _)); unfold strI; rw [S_back])⟩
    · exact q.elim
  · exact q.elim
/-- tuple(..), list(..) -/
def fTuple : List D → GS → RE D := fun xs G => match xs with
  | [.tup ds] => .ok (.tup ds) G
  | [x] => match lstOf G x with
    | some ds => .ok (.tup ds) G
    | none => .bad
  | _ => .bad
theorem sv_tuple : SrvC X (fun xs H Q => ∃ p ys, xs = [.ref p] ∧ ((SqL X.K H p ys ∧ ∀ l, H l = none → Q (.ref l) (upd H l (.tup ys))) ∨ (SqT X.K H p ys ∧ Q (.ref p) H))) fTuple := by
  intro W ρ G H xs dxs Q s r q
  unfold fTuple at q
  split at q
  · obtain ⟨v, rfl, r1⟩ := rds1 r
    obtain ⟨a, vs, rfl, t, rv⟩ := id r1
    exact ⟨a, vs, rfl, .inr ⟨t.sq, now q s r1⟩⟩
  · obtain ⟨v, rfl, r1⟩ := rds1 r
    split at q
    · rename_i ds h1
      obtain ⟨a, vs, rfl, hv, rv⟩ := lstOf_at s h1 r1
      refine ⟨a, vs, rfl, .inl ⟨.of hv, fun p hp => ?_⟩⟩
      obtain ⟨e, s'⟩ := s.lay (.tup vs) hp
      exact q _ _ _ e s' ⟨p, _, rfl, .inl ⟨.inl upd_same, s.fresh hp⟩, rv.ext e⟩
    · exact q.elim
  · exact q.elim
def fList : List D → GS → RE D := fun xs G => match xs with
  | [x] => match seqOf G x with
    | some ds => .ok (.lst ds) G
    | none => .bad
  | _ => .bad
/-- .. that may be changed -/
def fListN : List D → GS → RE D := fun xs G => match xs with
  | [x] => match seqOf G x with
    | some ds => .ok (.ref G.length) (G ++ [.lst ds])
    | none => .bad
  | _ => .bad
theorem sv_list : SrvC X (fun xs H Q => ∃ p ys, xs = [.ref p] ∧ (SqL X.K H p ys ∨ SqT X.K H p ys) ∧ ∀ l, H l = none → Q (.ref l) (upd H l (.lst ys))) fList := by
  intro W ρ G H xs dxs Q s r q
  unfold fList at q
  split at q
  · obtain ⟨v, rfl, r1⟩ := rds1 r
    split at q
    · rename_i ds h1
      obtain ⟨a, vs, rfl, hv, rv⟩ := seqOf_at s h1 r1
      exact ⟨a, vs, rfl, hv, fun p hp => lay_lst q s rv hp⟩
    · exact q.elim
  · exact q.elim
theorem sv_listN : SrvC X (fun xs H Q => ∃ p ys, xs = [.ref p] ∧ (SqL X.K H p ys ∨ SqT X.K H p ys) ∧ ∀ l, H l = none → Q (.ref l) (upd H l (.lst ys))) fListN := by
  intro W ρ G H xs dxs Q s r q
  unfold fListN at q
  split at q
  · obtain ⟨v, rfl, r1⟩ := rds1 r
    split at q
    · rename_i ds h1
      obtain ⟨a, vs, rfl, hv, rv⟩ := seqOf_at s h1 r1
      exact ⟨a, vs, rfl, hv, fun p hp => new_lst s rv q hp⟩
    · exact q.elim
  · exact q.elim

/-! ## isinstance(x, T), T a built-in type -/
def tyD (G : GS) : D → Option String
  | .non => some "NoneType"
  | .bl _ => some "bool"
  | .int _ => some "int"
  | .str _ => some "str"
  | .tup _ => some "tuple"
  | .lst _ => some "list"
  | .dic _ _ => some "dict"
  | .ref n => match G[n]? with | some (.lst _) => some "list" | _ => none
  | .scr _ => none
  | .key _ => none
  | .exn _ _ _ _ => none
def fIsi (T : String) (d : D) (G : GS) : RE D := match tyD G d with
  | some a => match kitB a T with
    | some b => .ok (.bl b) G
    | none => .bad
  | none => .bad
theorem tyX_of {K : PySem.W.Frag} {mg : MG} {ρ : List Addr} {G : GS} {H : Hp} (s : RS K mg ρ G H) {d : D} {v : V} {a : String} (h : tyD G d = some a) (r : RD K ρ H d v) : TyX K H v (.type a) := by
  cases d with
  | non => cases h; cases (show _ = _ from r); exact .base .non
  | bl b => cases h; cases (show _ = _ from r); exact .base (.bl _)
  | int b => cases h; cases (show _ = _ from r); exact .base (.int _)
  | str b => cases h; cases (show _ = _ from r); exact .base (.str _)
  | tup ds =>
    cases h
    obtain ⟨a, vs, rfl, t, rv⟩ := r
    rcases t with ⟨t | ⟨o, t⟩, _⟩ | t
    · exact .base (.tup t)
    · exact .fTuple t
    · rcases t with (t | ⟨o, t⟩) | ⟨o, its, n, hk, hc, _⟩
      · cases t
      · cases t
      · exact .kTuple hk hc
  | lst ds =>
    cases h
    obtain ⟨a, vs, rfl, t, rv⟩ := r
    exact .base (.lst t.1)
  | exn _ _ _ _ => simp [tyD] at h
  | dic ks ds =>
    cases h
    obtain ⟨a, kvs, rfl, t, _⟩ := r
    exact .base (.dK t)
  | ref n =>
    obtain ⟨p, h1, rfl⟩ := r
    simp only [tyD] at h
    cases g : G[n]? with
    | none => simp [g] at h
    | some ob =>
      cases ob with
      | ins _ _ => simp [g] at h
      | dcT _ _ => simp [g] at h
      | dic _ _ => simp [g] at h
      | lst ds =>
        simp only [g, Option.some.injEq] at h
        subst h
        obtain ⟨vs, h2, _⟩ := s.at_ n p _ h1 g
        exact .base (.lst h2)
  | scr _ => cases h
  | key _ => cases h
theorem le_isi {x y : Str} {T : String} {p p' pos : Pos} {e : Expr} {d : DE} (hg : Gl X x) (hm : X.mg x = none) (hv : bootBuiltins x = some (.builtin "isinstance")) (he : PEd X W e d) (gy : Gl X y) (my : X.mg y = none) (vy : bootBuiltins y = some (.type T)) (ny : y ≠ "__name__" := by decide) (dy : (y == ("__debug__" : Str)) = false := by decide)
    (hn : x ≠ "__name__" := by decide) (hdb : (x == ("__debug__" : Str)) = false := by decide) (h2 : starEach (.Name y p' :: []) X.env = (false, eval (.Name y p') X.env) :: starEach [] X.env := by rfl)
    (h3 : starEach (e :: [.Name y p']) X.env = (false, eval e X.env) :: starEach [.Name y p'] X.env := by rfl) (hpl : (backTo pos (starEach [.Name y p'] X.env)).any (·.1) = false := by rfl) :
    PEd X W (.Call (.Name x p) [e, .Name y p'] [] pos) (eUn (fIsi T) d) := by
  refine (pe_callB call_isi hg hm hv (pa_cons he (pa_cons (pe_bltn gy my vy (v := .ty T) rfl ny dy) pa_nil h2) h3) hn hdb h3 hpl).le fun σ H Q ⟨ρ, σd, G, c, h⟩ => ⟨ρ, σd, G, c, (EP'.bind h).mono fun _ H1 _ _ _ _ _ _ _ ⟨ρ1, G1, a, e1, s1, d1, _, h1⟩ => ?_⟩
  unfold fIsi at h1
  cases q : tyD G1 a with
  | none => rw [q] at h1; exact h1.elim
  | some b =>
    simp only [q] at h1
    cases q2 : kitB b T with
    | none => rw [q2] at h1; exact h1.elim
    | some r =>
      simp only [q2] at h1
      exact ⟨_, _, _, _, r, rfl, .ty T, tyX_of s1 q d1, kit_ty q2, now h1 s1 rfl⟩

/-! ## methods of lists and texts -/
def eMt (kd : GS → D → Bool) (f : D → List D → GS → RE D) (o : DE) (a : DA) : DE := fun σ G => bindE (o σ G) fun x G1 => if kd G1 x = true then bindE (a σ G1) fun xs G2 => f x xs G2 else .bad
def isLst (G : GS) (d : D) : Bool := (lstOf G d).isSome
def isStr (_ : GS) (d : D) : Bool := match d with | .str _ => true | _ => false
def Knd (X : Cx) (T : String) (kd : GS → D → Bool) : Prop := ∀ ρ G H d v, RS X.K X.mg ρ G H → kd G d = true → RD X.K ρ H d v → tyV X.K T v H
theorem knd_lst : Knd X "list" isLst := fun ρ G H d v s h r => by
  unfold isLst at h
  rw [Option.isSome_iff_exists] at h
  obtain ⟨ds, h⟩ := h
  obtain ⟨a, vs, rfl, hv, _⟩ := lstOf_at s h r
  exact .inl ⟨rfl, vs, .of hv⟩
theorem knd_str : Knd X "str" isStr := fun ρ G H d v s h r => by
  cases d <;> simp [isStr] at h
  cases (show _ = _ from r)
  rfl
def SrvM (X : Cx) (r : V → List V → Hp → VK → Prop) (f : D → List D → GS → RE D) : Prop := ∀ (W : XK) ρ G H x xs dx dxs Q, RS X.K X.mg ρ G H → RD X.K ρ H dx x → RDs X.K ρ H dxs xs → EPD X.K X.mg W ρ H (f dx dxs G) Q → r x xs H Q
section
variable {T id : String} {name : Str} {r : V → List V → Hp → VK → Prop} {f : D → List D → GS → RE D} {kd : GS → D → Bool} {o e : Expr} {es : List Expr} {d : DE} {da : DA} {apos cpos : Pos}
theorem le_mt (pa : PlainAttrs T) (slot : Slot T name id) (hty : typeOf (.builtin id) = pure (.type "method_descriptor")) (hm : MtR X id r) (hk : Knd X T kd) (hf : SrvM X r f) (ho : PEd X W o d) (ha : PAd X W (e :: es) da)
    (hbase : attributeBase o name X.env (eval o X.env) = eval o X.env := by rfl)
    (hfew : ((backTo cpos (starEach (e :: es) X.env)).all (fun x => !x.1) && (backToKw cpos (keywordEach [] X.env)).all (fun x => x.1.isSome)
      && decide ((e :: es).length + ([] : List Keyword).length + (if ([] : List Keyword).isEmpty then 0 else 1) < 30)) = true := by rfl)
    (hline : (apos.endLine == cpos.line) = true := by rfl) (hs : starEach (e :: es) X.env = (false, eval e X.env) :: starEach es X.env := by rfl) (hplain : (backTo cpos (starEach es X.env)).any (·.1) = false := by rfl) :
    PEd X W (.Call (.Attribute o name apos) (e :: es) [] cpos) (eMt kd f d da) := by
  refine (pe_bm pa slot hty hm ho ha hbase hfew hline hs hplain).le fun σ H Q ⟨ρ, σd, G, c, h⟩ => ⟨ρ, σd, G, c, (EP'.bind h).mono fun _ H1 _ _ v1 _ _ _ _ ⟨ρ1, G1, a, e1, s1, d1, _, h1⟩ => ?_⟩
  by_cases hd : kd G1 a = true
  · rw [if_pos hd] at h1
    refine ⟨hk ρ1 G1 H1 a v1 s1 hd d1, ρ1, σd, G1, c.ext e1 s1, (EP'.bind h1).mono fun _ H2 _ _ v2 _ _ _ _ ⟨ρ2, G2, a2, e2, s2, d2, _, h2⟩ => ?_⟩
    exact hf _ ρ2 G2 H2 v1 v2 a a2 Q s2 (d1.ext e2) d2 h2
  · rw [if_neg hd] at h1; exact h1.elim
theorem le_mt0 (pa : PlainAttrs T) (slot : Slot T name id) (hty : typeOf (.builtin id) = pure (.type "method_descriptor")) (hm : MtR X id r) (hk : Knd X T kd) (hf : SrvM X r f) (ho : PEd X W o d)
    (hbase : attributeBase o name X.env (eval o X.env) = eval o X.env := by rfl) (hline : (apos.endLine == cpos.line) = true := by rfl) : PEd X W (.Call (.Attribute o name apos) [] [] cpos) (eMt kd f d aNil) := by
  refine (pe_bm0 pa slot hty hm ho hbase hline).le fun σ H Q ⟨ρ, σd, G, c, h⟩ => ⟨ρ, σd, G, c, (EP'.bind h).mono fun _ H1 _ _ v1 _ _ _ _ ⟨ρ1, G1, a, e1, s1, d1, _, h1⟩ => ?_⟩
  by_cases hd : kd G1 a = true
  · rw [if_pos hd] at h1
    exact ⟨hk ρ1 G1 H1 a v1 s1 hd d1, hf _ ρ1 G1 H1 v1 [] a [] Q s1 d1 rfl h1⟩
  · rw [if_neg hd] at h1; exact h1.elim
end
/-- xs.append(y) of a list that may be changed -/
def mAppend : D → List D → GS → RE D := fun x xs G => match x, xs with
  | .ref n, [y] => match G[n]? with
    | some (.lst ds) => if ds.length < maxLine then .ok .non (G.set n (.lst (ds ++ [y]))) else .bad
    | _ => .bad
  | _, _ => .bad
theorem ref_at {K : PySem.W.Frag} {mg : MG} {ρ : List Addr} {G : GS} {H : Hp} (s : RS K mg ρ G H) {n : Nat} {v : V} {ds : List D} (g : G[n]? = some (.lst ds)) (r : RD K ρ H (.ref n) v) : ∃ p vs, v = .ref p ∧ ρ[n]? = some p ∧ H p = some (.lst vs) ∧ RDs K ρ H ds vs := by
  obtain ⟨p, h1, rfl⟩ := r
  obtain ⟨vs, h2, h3⟩ := s.at_ n p _ h1 g
  exact ⟨p, vs, rfl, h1, h2, h3⟩
theorem sm_append : SrvM X rAppend mAppend := by
  intro W ρ G H x xs dx dxs Q s r rs q
  unfold mAppend at q
  split at q
  · rename_i n y
    obtain ⟨v, rfl, rv⟩ := rds1 rs
    split at q
    · rename_i ds g
      obtain ⟨p, vs, rfl, hp, hv, rds⟩ := ref_at s g r
      split at q
      · rename_i hl
        refine ⟨p, vs, v, rfl, rfl, hv, by rw [← rds.length, ← maxLine_eq]; exact hl, ?_⟩
        obtain ⟨e, s'⟩ := s.write (o := .lst (vs ++ [v])) (ob := .lst (ds ++ [y])) hp fun e => ⟨_, upd_same, (rds.ext e).append (RDs.cons (rv.ext e) RDs.nil)⟩
        exact q _ _ _ e s' rfl
      · exact q.elim
    · exact q.elim
  · exact q.elim
end
end Dl
namespace Dl
open PySem L2
/-- the signs of a written text -/
def lit (x : Str) : List Nat := x.cps.toList
theorem S_lit (x : Str) : S (lit x) = x := by simp [S, lit]
def fuel : Nat := 1000000
section
variable {X : Cx} {W : WX}
theorem le_lit {x : Str} {j pos} : PEd X W (.Constant (.str x) j pos) (eCst (.str (lit x))) := le_str (S_lit x).symm
theorem le_gint1 {x : Str} {i : Int} {pos : Pos} (hg : Gl X x) (hm : ∃ t, X.mg x = some (.int i t)) (hd : (x == ("__debug__" : Str)) = false := by decide) : PEd X W (.Name x pos) (eCst (.int i)) := by
  obtain ⟨t, hm⟩ := hm
  exact le_gint hg hm hd
theorem le_gstr1 {x y : Str} {pos : Pos} (hg : Gl X x) (hm : ∃ t, X.mg x = some (.str y t)) (hd : (x == ("__debug__" : Str)) = false := by decide) : PEd X W (.Name x pos) (eCst (.str (lit y))) := by
  obtain ⟨t, hm⟩ := hm
  exact le_gstr hg hm (S_lit y).symm hd
def bNeg : D → GS → RE D := fun x G => match x with | .int i => .ok (.int (-i)) G | _ => .bad
theorem le_neg {a : Expr} {d : DE} {pos : Pos} (ha : PEd X W a d) : PEd X W (.UnaryOp .USub a pos) (eUn bNeg d) := by
  refine (pe_un un_neg ha).le fun σ H Q ⟨ρ, σd, G, c, h⟩ => ⟨ρ, σd, G, c, (EP'.bind h).mono fun _ H1 _ _ _ _ _ _ _ ⟨ρ1, G1, a, e1, s1, d1, _, h1⟩ => ?_⟩
  cases a with
  | int i => exact ⟨i, d1, now h1 s1 rfl⟩
  | _ => exact h1.elim
/-- a value of truth that comes of a PC -/
theorem le_tpc {op : CmpOp} {a b : Expr} {t : TE} {d : DE} {pos : Pos} (h : PC X op a b t) (h1 : behindInMarks op b = false) (k : ∀ σ H Q, tE X.K X.mg W d σ H Q → t σ H Q) : PTd X W (.Compare a [op] [b] pos) (dT d) := by
  refine (pt_cmp h h1).le fun σ H Q ⟨ρ, σd, G, c, h⟩ => k σ H _ ⟨ρ, σd, G, c, (EP'.bind h).mono fun ρ1 H1 G1 a v e1 s1 d1 _ ⟨ρ2, G2, a2, e2, s2, d2, _, h2⟩ => ?_⟩
  cases a2 with
  | bl b => exact ⟨b, d2, h2 ρ2 H1 b (.refl _ _) s2 rfl⟩
  | _ => exact h2.elim
theorem isN_le {a : Expr} {da : DE} (σ : L2.St) (H : Hp) (Q : VK) (h : tE X.K X.mg W (eUn (cIsN false) da) σ H Q) : tIsN (tE X.K X.mg W da) σ H Q := by
  obtain ⟨ρ, σd, G, c, h⟩ := h
  refine ⟨ρ, σd, G, c, (EP'.bind h).mono fun _ H1 _ _ _ _ _ _ _ ⟨ρ1, G1, a, e1, s1, d1, _, h1⟩ => ?_⟩
  have := now (EPD.of_eq h1 (cIsN_ok false G1 d1)) s1 rfl
  simpa using this
theorem notN_le {a : Expr} {da : DE} (σ : L2.St) (H : Hp) (Q : VK) (h : tE X.K X.mg W (eUn (cIsN true) da) σ H Q) : tNotN (tE X.K X.mg W da) σ H Q := by
  obtain ⟨ρ, σd, G, c, h⟩ := h
  refine ⟨ρ, σd, G, c, (EP'.bind h).mono fun _ H1 _ _ _ _ _ _ _ ⟨ρ1, G1, a, e1, s1, d1, _, h1⟩ => ?_⟩
  have := now (EPD.of_eq h1 (cIsN_ok true G1 d1)) s1 rfl
  simpa using this
theorem le_tisN {a : Expr} {da : DE} {j pos pos'} (ha : PEd X W a da) : PTd X W (.Compare a [.Is] [.Constant .none j pos'] pos) (dT (eUn (cIsN false) da)) := le_tpc (pc_isN ha) (by rfl) (isN_le (a := a))
theorem le_tnotN {a : Expr} {da : DE} {j pos pos'} (ha : PEd X W a da) : PTd X W (.Compare a [.IsNot] [.Constant .none j pos'] pos) (dT (eUn (cIsN true) da)) := le_tpc (pc_notN ha) (by rfl) (notN_le (a := a))
/-- x += y : ints, texts -/
def bIadd : D → D → GS → RE D := fun x y G => match x, y with
  | .int i, .int j => .ok (.int (i + j)) G
  | .str a, .str b => if a.length + b.length ≤ maxLine then .ok (.str (a ++ b)) G else .bad
  | _, _ => .bad
def rIaddA : R2 := fun x y H Q => rI0 (fun i j => .int (i + j)) x y H Q ∨ (∃ i j, x = .str i ∧ y = .str j ∧ i.length + j.length ≤ sizeLine ∧ Q (.str (i ++ j)) H)
theorem iop_addA : OpR X (inplaceOp .Add) rIaddA := iop_add.or iop_add_str
theorem sv_iadd : Srv2 X rIaddA bIadd := by
  intro W ρ G H x y dx dy Q s rx ry q
  unfold bIadd at q
  split at q
  · cases (show _ = _ from rx); cases (show _ = _ from ry)
    exact .inl ⟨_, _, rfl, rfl, now q s rfl⟩
  · cases (show _ = _ from rx); cases (show _ = _ from ry)
    split at q
    · rename_i c
      refine .inr ⟨_, _, rfl, rfl, by rw [S_len, S_len, ← maxLine_eq]; exact c, ?_⟩
      rw [S_app]
      exact now q s rfl
    · exact q.elim
  · exact q.elim
/-- + whose result may be changed -/
def bAddN : D → D → GS → RE D := fun x y G => match x, y with
  | .int i, .int j => .ok (.int (i + j)) G
  | .str a, .str b => if a.length + b.length ≤ maxLine then .ok (.str (a ++ b)) G else .bad
  | x, y => match lstOf G x, lstOf G y with
    | some a, some b => if a.length + b.length ≤ maxLine then .ok (.ref G.length) (G ++ [.lst (a ++ b)]) else .bad
    | _, _ => .bad
theorem sv_addN : Srv2 X rAddA bAddN := by
  intro W ρ G H x y dx dy Q s rx ry q
  unfold bAddN at q
  split at q
  · cases (show _ = _ from rx); cases (show _ = _ from ry)
    exact .inl ⟨_, _, rfl, rfl, now q s rfl⟩
  · rename_i a b
    cases (show _ = _ from rx); cases (show _ = _ from ry)
    split at q
    · rename_i c
      refine .inr (.inl ⟨_, _, rfl, rfl, by rw [S_len, S_len, ← maxLine_eq]; exact c, ?_⟩)
      rw [S_app]
      exact now q s rfl
    · exact q.elim
  · split at q
    · rename_i a b h1 h2
      obtain ⟨l, xs, rfl, hl, r1⟩ := lstOf_at s h1 rx
      obtain ⟨m, ys, rfl, hm, r2⟩ := lstOf_at s h2 ry
      split at q
      · rename_i c
        refine .inr (.inr ⟨l, m, xs, ys, rfl, rfl, hl, hm, by rw [← r1.length, ← r2.length, ← maxLine_eq]; exact c, fun p hp => new_lst s (r1.append r2) q hp⟩)
      · exact q.elim
    · exact q.elim
end
theorem fnX_bad {P : Program} {w : World} {K : PySem.W.Frag} {mg : MG} {base : Heap} {x qual : Str} {params : Arguments} {body : List Stmt} {scope : Scope} {ps : List Str} {k : Nat}
    (F : ∃ fd, FunD K x qual params body scope [] [] (He.ga K x) fd) (g : mg x = some (.ref (He.ga K x)))
    (hb : ∀ (kV doc pm : Value) (an : Option Addr) (cdv ct : Value) (us : List Value), us.length = ps.length → bindArgs (PySem.W.fnOf x qual params body scope .none kV doc pm an cdv ct) ⟨us, []⟩ = pure (ps.zip us)) : FnX P w K mg base x k ps (fun _ _ => .bad) := by
  obtain ⟨fd, F⟩ := F
  exact ⟨fd, ⟨fun vs H Q E ⟨ρ, ds, G, s, r, e, _⟩ => by rw [← e, r.length], fun A outer s H args us vs Q E hr he hb hv ⟨ρ, ds, G, _, _, _, h⟩ => h.elim⟩, F.bindsN hb, g, F.kp, F.bindsA hb, FunD_lk F⟩
/-! ## the end of a law -/
theorem walk_end {l : PySem.W.OpenLaw} {n k : Nat} {q : Program} {loose : List Str} {XP : (Str → Option Value) → Heap → Prop} {YP : World → Heap → Prop} {d : DefRec} {F : DF}
    (hn : l.most = some n) (hn2 : n ≤ sizeLine) (hdf : d.params.defaults = []) (hr : Room k callerA)
    (hF : ∀ (w : World) (mg : Str → Option Value) (fa : Addr) (h : Heap), YP w h → h.Ns mainGlobals mg → mg d.name = some (.ref fa) →
      ∃ (K : PySem.W.Frag), K.In h ∧ mg "law" = some (.ref fa) ∧ ∀ base : Heap, FnX l.prog w K mg base "law" k ["script"] F)
    (holds : ∀ ns : List Int, ns.length ≤ n → ∃ G, F [.scr ns] [] = .ok (.bl true) G) :
    PySem.W.WalkO q loose XP YP l.row.toRowW d [] (fun f vs => PySem.call f vs) := by
  refine Att.attach_call hn hdf fun w s₀ s₁ mg mb fa o pm cd doc a vs ns G Y ho hd hcd hmg hobj hints hlen hg => ?_
  obtain ⟨K, KX, hl, hX⟩ := hF w mg fa _ Y G.T.g hmg
  obtain ⟨fd, h1, _, h3, _, h5, oc, od, osl, h6⟩ := hX s₁.heap
  have ef := Option.some.inj (hl.symm.trans h3)
  injection ef with ef
  have hF : ∀ base : Heap, K.In base → base.Ns mainGlobals mg → FnOk l.prog w K mg base (L2.CX l.prog w) k fa fd ["script"] (spF K mg 1 F) := fun base _ _ => by
    obtain ⟨fd2, g1, _, _, _, _, oc2, od2, osl2, g6⟩ := hX base
    rw [h6] at g6
    have e := Option.some.inj g6
    injection e with _ _ e _
    injection e with e
    rw [ef, e]
    exact g1
  have hb : ∀ (s : Shared) (u : Value), BindsTo s fd ⟨[u], []⟩ [("script", u)] := fun s u => h5 s [u] rfl
  refine law_call KX G.T.g G.T.b G.T.builtins G.T.nolimit hg hobj hints (Nat.le_trans hlen hn2) hr hF hb (fun H hO hS => ?_) fun H e s' h => ?_
  · obtain ⟨G, e⟩ := holds ns hlen
    refine ⟨[], [.scr ns], [], ⟨List.nodup_nil, rfl, fun i a ob h => by simp at h⟩, ⟨_, _, rfl, ⟨a, rfl, ?_⟩, rfl⟩, rfl, ?_⟩
    · rcases hS with hS | hS
      · exact .inl ⟨hS, by simp⟩
      · exact .inr (.inr hS)
    · rw [e]
      exact fun ρ' H' v _ _ r => r
  · obtain ⟨_, _, _, _, _, _, _, _, _, _, _, _, z⟩ := h
    exact z.elim
end Dl
namespace Dl
open PySem L2
/-! ## places -/
theorem ixN_nat (n k : Nat) : ixN n (k : Int) = if k < n then some k else none := by
  unfold ixN
  by_cases h : k < n
  · rw [if_pos (by omega), if_pos (by omega), if_pos h]; simp
  · rw [if_pos (by omega), if_neg (by omega), if_neg h]
theorem ixN_lit (n k : Nat) : ixN n (no_index (OfNat.ofNat k : Int)) = if k < n then some k else none := ixN_nat n k
theorem ixN_0 (n : Nat) : ixN n 0 = if 0 < n then some 0 else none := ixN_nat n 0
theorem ixN_1 (n : Nat) : ixN n 1 = if 1 < n then some 1 else none := ixN_nat n 1
theorem atI_natC {α : Type} (xs : List α) (k : Nat) : atI xs (k : Int) = xs[k]? := by
  unfold atI
  rw [ixN_nat]
  by_cases h : k < xs.length
  · rw [if_pos h]; rfl
  · rw [if_neg h]
    exact (List.getElem?_eq_none (by omega)).symm
theorem atI_lit {α : Type} (xs : List α) (k : Nat) : atI xs (no_index (OfNat.ofNat k : Int)) = xs[k]? := atI_natC xs k
theorem atI_0 {α : Type} (xs : List α) : atI xs 0 = xs[0]? := atI_natC xs 0
theorem atI_1 {α : Type} (xs : List α) : atI xs 1 = xs[1]? := atI_natC xs 1
theorem atI_neg1 {α : Type} (xs : List α) : atI xs (-1) = xs.getLast? := by
  unfold atI ixN
  rw [if_neg (by omega)]
  cases xs with
  | nil => rfl
  | cons a l =>
    have e : ((-1 : Int) + ((a :: l).length : Nat)).toNat = l.length := by rw [List.length_cons]; omega
    rw [if_pos (by rw [List.length_cons]; omega), e, List.getLast?_eq_getElem?]
    rfl
theorem atI_toNat {α : Type} (xs : List α) {k : Int} (h : 0 ≤ k) : atI xs k = xs[k.toNat]? := by
  have := atI_natC xs k.toNat
  rwa [Int.toNat_of_nonneg h] at this
/-! ## no refs -/
mutual
def nrD : D → Bool
  | .non => true
  | .bl _ => true
  | .int _ => true
  | .str _ => true
  | .tup ds => nrDs ds
  | .lst ds => nrDs ds
  | .dic _ ds => nrDs ds
  | .exn _ _ _ ds => nrDs ds
  | .ref _ => false
  | .scr _ => true
  | .key _ => true
def nrDs : List D → Bool
  | [] => true
  | d :: ds => nrD d && nrDs ds
end
mutual
theorem subD_nr {f : Nat → Option D} : ∀ {d : D}, nrD d = true → subD f d = some d
  | .non, _ => rfl
  | .bl _, _ => rfl
  | .int _, _ => rfl
  | .str _, _ => rfl
  | .tup ds, h => by simp only [subD, subDs_nr (by simpa only [nrD] using h), Option.map_some]
  | .lst ds, h => by simp only [subD, subDs_nr (by simpa only [nrD] using h), Option.map_some]
  | .dic _ ds, h => by simp only [subD, subDs_nr (by simpa only [nrD] using h), Option.map_some]
  | .exn _ _ _ ds, h => by simp only [subD, subDs_nr (by simpa only [nrD] using h), Option.map_some]
  | .scr _, _ => rfl
  | .key _, _ => rfl
  | .ref _, h => by simp [nrD] at h
theorem subDs_nr {f : Nat → Option D} : ∀ {ds : List D}, nrDs ds = true → subDs f ds = some ds
  | [], _ => rfl
  | d :: ds, h => by
    simp only [nrDs, Bool.and_eq_true] at h
    simp only [subDs, subD_nr h.1, subDs_nr h.2]
end
theorem nrDs_all : ∀ {ds : List D}, nrDs ds = true ↔ ∀ d ∈ ds, nrD d = true
  | [] => by simp [nrDs]
  | d :: ds => by simp [nrDs, nrDs_all (ds := ds)]
theorem nrDs_app {ds es : List D} : nrDs (ds ++ es) = (nrDs ds && nrDs es) := by
  induction ds with
  | nil => simp [nrDs]
  | cons d ds ih => simp [nrDs, ih, Bool.and_assoc]
theorem nrDs_ints (ns : List Int) : nrDs (ns.map D.int) = true := nrDs_all.mpr fun d h => by
  obtain ⟨n, _, rfl⟩ := List.mem_map.mp h; rfl
/-! ## leaving a def -/
theorem finish_same {α β : Type} {sub : (Nat → Option D) → α → Option α} {G G' : GS} {d : α} {k : α → GS → RE β} (h : G'.length = G.length) : finish sub G d G' k = k d G' := by
  unfold finish; rw [if_pos h]
theorem finish_own {α β : Type} {sub : (Nat → Option D) → α → Option α} {G t : GS} {d d' : α} {k : α → GS → RE β} (ht : t ≠ []) (h : sub (sealR 6 G.length (G ++ t)) d = some d') : finish sub G d (G ++ t) k = k d' G := by
  unfold finish
  rw [if_neg (by simp [ht]), List.take_left' rfl, beqG_refl, Bool.true_or, if_pos rfl, h]
/-- data without refs -/
theorem finish_nr {β : Type} {G t : GS} {d : D} {k : D → GS → RE β} (h : nrD d = true) : finish subD G d (G ++ t) k = k d G := by
  cases t with
  | nil => rw [List.append_nil]; exact finish_same rfl
  | cons a t => exact finish_own (by simp) (subD_nr h)
/-- a list of its own -/
theorem finish_ref {β : Type} {G t : GS} {n : Nat} {ds : List D} {k : D → GS → RE β} (hn : t[n]? = some (.lst ds)) (h : nrDs ds = true) : finish subD G (.ref (G.length + n)) (G ++ t) k = k (.lst ds) G := by
  refine finish_own (by intro e; subst e; simp at hn) ?_
  simp only [subD, sealR]
  rw [if_neg (by omega), List.getElem?_append_right (by omega)]
  simp only [Nat.add_sub_cancel_left, hn, subDs_nr h, Option.map_some]
theorem finish_ref0 {β : Type} {G t : GS} {ds : List D} {k : D → GS → RE β} (h : nrDs ds = true) : finish subD G (.ref G.length) (G ++ .lst ds :: t) k = k (.lst ds) G := finish_ref (n := 0) rfl h
/-- an object of the caller's was changed as well -/
theorem finish_set {β : Type} {G G1 t : GS} {d d' : D} {k : D → GS → RE β} (hl : G1.length = G.length) (hc : clsG G.length G1 = true) (ht : t ≠ []) (h : subD (sealR 6 G.length (G1 ++ t)) d = some d') : finish subD G d (G1 ++ t) k = k d' G1 := by
  unfold finish
  have e : (G1 ++ t).take G.length = G1 := by rw [← hl, List.take_left' rfl]
  rw [if_neg (by simp [ht, hl]), e, hc, Bool.or_true, if_pos rfl, h]
theorem finish_set_nr {β : Type} {G G1 t : GS} {d : D} {k : D → GS → RE β} (hl : G1.length = G.length) (hc : clsG G.length G1 = true) (h : nrD d = true) : finish subD G d (G1 ++ t) k = k d G1 := by
  cases t with
  | nil => rw [List.append_nil]; exact finish_same hl
  | cons a t => exact finish_set hl hc (by simp) (subD_nr h)
theorem finish_set_ref {β : Type} {G G1 t : GS} {n : Nat} {ds : List D} {k : D → GS → RE β} (hl : G1.length = G.length) (hc : clsG G.length G1 = true) (hn : t[n]? = some (.lst ds)) (h : nrDs ds = true) : finish subD G (.ref (G.length + n)) (G1 ++ t) k = k (.lst ds) G1 := by
  refine finish_set hl hc (by intro e; subst e; simp at hn) ?_
  simp only [subD, sealR]
  rw [if_neg (by omega), ← hl, List.getElem?_append_right (by omega)]
  simp only [Nat.add_sub_cancel_left, hn, subDs_nr h, Option.map_some]
/-! ## loops -/
/-- every turn goes on -/
theorem for_inv {g : DG} {body : DS} (Inv : Nat → PEnv → GS → Prop) : ∀ (ds : List D) (i : Nat) (σ : PEnv) (G : GS), Inv i σ G →
    (∀ j d σ G, ds[j]? = some d → Inv (i + j) σ G → ∃ σ1 σ' G', g d σ = some σ1 ∧ (body σ1 G = .nx σ' G' ∨ body σ1 G = .cont σ' G') ∧ Inv (i + j + 1) σ' G') →
    ∃ σ' G', forL g body ds σ G = .nx σ' G' ∧ Inv (i + ds.length) σ' G'
  | [], i, σ, G, h, _ => ⟨σ, G, rfl, h⟩
  | d :: ds, i, σ, G, h, st => by
    obtain ⟨σ1, σ', G', e1, e2, h2⟩ := st 0 d σ G rfl h
    obtain ⟨σ2, G2, e3, h3⟩ := for_inv Inv ds (i + 1) σ' G' h2 fun j d' σ G hd hi => by
      have := st (j + 1) d' σ G (by simpa using hd) (by rw [show i + (j + 1) = i + 1 + j by omega]; exact hi)
      rw [show i + (j + 1) + 1 = i + 1 + j + 1 by omega] at this
      exact this
    refine ⟨σ2, G2, ?_, by rw [List.length_cons, show i + (ds.length + 1) = i + 1 + ds.length by omega]; exact h3⟩
    simp only [forL, e1]
    rcases e2 with e2 | e2
    · rw [e2, turnR_nx]; exact e3
    · rw [e2, turnR_cont]; exact e3
/-- a turn may end the loop, in a way that is as wished -/
theorem for_any {g : DG} {body : DS} (Inv : Nat → PEnv → GS → Prop) (Out : RSt → Prop) : ∀ (ds : List D) (i : Nat) (σ : PEnv) (G : GS), Inv i σ G →
    (∀ j d σ G, ds[j]? = some d → Inv (i + j) σ G → ∃ σ1, g d σ = some σ1 ∧ ((∃ σ' G', (body σ1 G = .nx σ' G' ∨ body σ1 G = .cont σ' G') ∧ Inv (i + j + 1) σ' G') ∨ ((∃ σ' G', body σ1 G = .brk σ' G' ∧ Out (.nx σ' G')) ∨ (∃ d G', body σ1 G = .ret d G' ∧ Out (.ret d G')) ∨ (∃ c fs σ' G', body σ1 G = .exc c fs σ' G' ∧ Out (.exc c fs σ' G'))))) →
    (∀ σ' G', Inv (i + ds.length) σ' G' → Out (.nx σ' G')) → Out (forL g body ds σ G)
  | [], i, σ, G, h, _, fin => fin σ G h
  | d :: ds, i, σ, G, h, st, fin => by
    obtain ⟨σ1, e1, q⟩ := st 0 d σ G rfl h
    simp only [forL, e1]
    rcases q with ⟨σ', G', e2, h2⟩ | q
    · have rest := for_any Inv Out ds (i + 1) σ' G' h2 (fun j d' σ G hd hi => by
        have := st (j + 1) d' σ G (by simpa using hd) (by rw [show i + (j + 1) = i + 1 + j by omega]; exact hi)
        rw [show i + (j + 1) + 1 = i + 1 + j + 1 by omega] at this
        exact this) (fun σ' G' h => fin σ' G' (by rw [List.length_cons, show i + (ds.length + 1) = i + 1 + ds.length by omega]; exact h))
      rcases e2 with e2 | e2
      · rw [e2, turnR_nx]; exact rest
      · rw [e2, turnR_cont]; exact rest
    · rcases q with ⟨σ', G', e, h⟩ | ⟨d, G', e, h⟩ | ⟨c, fs, σ', G', e, h⟩
      · rw [e, turnR_brk]; exact h
      · rw [e, turnR_ret]; exact h
      · rw [e, turnR_exc]; exact h
theorem rngD_get {lo : Int} {n j : Nat} {d : D} (h : (rngD lo n)[j]? = some d) : j < n ∧ d = .int (lo + (j : Int)) := by
  have hj : j < n := by
    have := (List.getElem?_eq_some_iff.mp h).1
    simpa [rngD] using this
  simp [rngD, hj] at h
  exact ⟨hj, h.symm⟩
theorem rngD_len (lo : Int) (n : Nat) : (rngD lo n).length = n := by simp [rngD]
theorem rng1_ok {n : Int} {G : GS} (h1 : -(2 ^ 62) ≤ n) (h2 : n < 2 ^ 62) : rng1 [.int n] G = .ok (rngD 0 n.toNat) G := by
  have e : i62 n = true := by simp only [i62_eq, Bool.and_eq_true, decide_eq_true_eq]; exact ⟨h1, h2⟩
  simp only [rng1, e, if_true]
theorem rng2_ok {m n : Int} {G : GS} (h1 : -(2 ^ 62) ≤ m) (h2 : m < 2 ^ 62) (h3 : -(2 ^ 62) ≤ n) (h4 : n < 2 ^ 62) : rng2 [.int m, .int n] G = .ok (rngD m (n - m).toNat) G := by
  have e : (i62 m && i62 n) = true := by simp only [i62_eq, Bool.and_eq_true, decide_eq_true_eq]; exact ⟨⟨h1, h2⟩, h3, h4⟩
  simp only [rng2, e, if_true]
/-- while: an invariant by the measure -/
theorem while_inv {c : DT} {b : DS} (Inv : Nat → PEnv → GS → Prop) : ∀ (m n : Nat) (σ : PEnv) (G : GS), m < n → Inv m σ G →
    (∀ m σ G, Inv m σ G → ∃ k G1, c σ G = .ok k G1 ∧ (k = true → ∃ σ' G' m', (b σ G1 = .nx σ' G' ∨ b σ G1 = .cont σ' G') ∧ m' < m ∧ Inv m' σ' G')) →
    ∃ σ' G' G0 m', sWhile n c b σ G = .nx σ' G' ∧ Inv m' σ' G0 ∧ c σ' G0 = .ok false G'
  | m, 0, σ, G, h, _, _ => absurd h (Nat.not_lt_zero _)
  | m, n + 1, σ, G, h, hi, st => by
    obtain ⟨k, G1, e1, q⟩ := st m σ G hi
    simp only [sWhile, e1, bindS_ok]
    cases k with
    | false => exact ⟨σ, G1, G, m, rfl, hi, e1⟩
    | true =>
      obtain ⟨σ', G', m', e2, hm, h2⟩ := q rfl
      obtain ⟨σ2, G2, G0, m2, e3, h3⟩ := while_inv Inv m' n σ' G' (by omega) h2 st
      refine ⟨σ2, G2, G0, m2, ?_, h3⟩
      rw [if_pos rfl]
      rcases e2 with e2 | e2
      · rw [e2, turnR_nx]; exact e3
      · rw [e2, turnR_cont]; exact e3
theorem get_new {o : Ob} {G t : GS} : (G ++ o :: t)[G.length]? = some o := by rw [List.getElem?_append_right (Nat.le_refl _)]; simp
theorem set_new {o o' : Ob} {G t : GS} : (G ++ o :: t).set G.length o' = G ++ o' :: t := by rw [List.set_append_right _ _ (Nat.le_refl _)]; simp
theorem get_new1 {o a : Ob} {G t : GS} : (G ++ a :: o :: t)[G.length + 1]? = some o := by rw [List.getElem?_append_right (by omega)]; simp
theorem set_new1 {o o' a : Ob} {G t : GS} : (G ++ a :: o :: t).set (G.length + 1) o' = G ++ a :: o' :: t := by rw [List.set_append_right _ _ (by omega)]; simp
theorem le_0 : (0 ≤ maxLine) = True := by simp
theorem le_1 : (1 ≤ maxLine) = True := by simp [maxLine]
theorem le_2 : (2 ≤ maxLine) = True := by simp [maxLine]
theorem le_3 : (3 ≤ maxLine) = True := by simp [maxLine]
theorem le_4 : (4 ≤ maxLine) = True := by simp [maxLine]
theorem le_5 : (5 ≤ maxLine) = True := by simp [maxLine]
theorem le_6 : (6 ≤ maxLine) = True := by simp [maxLine]
theorem le_7 : (7 ≤ maxLine) = True := by simp [maxLine]
theorem le_8 : (8 ≤ maxLine) = True := by simp [maxLine]
theorem cIn_one (c : Nat) (cs : List Nat) (G : GS) (neg : Bool) : cIn neg (.str [c]) (.str cs) G = .ok (.bl (xor neg (decide (c ∈ cs)))) G := by
  simp only [cIn, subS_one]
theorem cEq_int (neg : Bool) (i j : Int) (G : GS) : cEqB neg (.int i) (.int j) G = .ok (.bl (xor neg (decide (i = j)))) G := rfl
theorem cEq_str (neg : Bool) (i j : List Nat) (G : GS) : cEqB neg (.str i) (.str j) G = .ok (.bl (xor neg (decide (i = j)))) G := rfl
theorem cEq_bl (neg : Bool) (i j : Bool) (G : GS) : cEqB neg (.bl i) (.bl j) G = .ok (.bl (xor neg (decide (i = j)))) G := rfl
theorem fdivL (i j : Int) (h : 0 < j ∧ j < 1073741824) (G : GS) : bFdiv (.int i) (.int j) G = .ok (.int (i / j)) G := by simp only [bFdiv]; rw [if_pos h]
theorem modL (i j : Int) (h : 0 < j) (G : GS) : bMod (.int i) (.int j) G = .ok (.int (i % j)) G := by simp only [bMod]; rw [if_pos h]
theorem cmul_l {i j : Int} (h : (decide (-(2 ^ 64) < i) && decide (i < 2 ^ 64)) = true) : cmul i j = true := by rw [cmul_eq]; rw [h]; rfl
theorem cmul_r {i j : Int} (h : (decide (-(2 ^ 64) < j) && decide (j < 2 ^ 64)) = true) : cmul i j = true := by rw [cmul_eq]; rw [h, Bool.or_true]
theorem mulL (i j : Int) (h : -(2 ^ 64) < i ∧ i < 2 ^ 64) (G : GS) : bMul (.int i) (.int j) G = .ok (.int (i * j)) G := by simp only [bMul]; rw [cmul_l (by rw [decide_eq_true h.1, decide_eq_true h.2]; rfl)]; rfl
theorem mulR (i j : Int) (h : -(2 ^ 64) < j ∧ j < 2 ^ 64) (G : GS) : bMul (.int i) (.int j) G = .ok (.int (i * j)) G := by simp only [bMul]; rw [cmul_r (by rw [decide_eq_true h.1, decide_eq_true h.2]; rfl)]; rfl
theorem fLen_seq {G : GS} {a : D} {es : List D} (h : seqOf G a = some es) : fLen [a] G = .ok (.int es.length) G := by
  cases a with
  | str s => simp [seqOf, lstOf] at h
  | scr s => simp [seqOf, lstOf] at h
  | _ => simp only [fLen, h]
theorem bIx_seq {G : GS} {a d : D} {es : List D} {j : Nat} (h : seqOf G a = some es) (hd : es[j]? = some d) : bIx a (.int j) G = .ok d G := by
  cases a with
  | str s => simp [seqOf, lstOf] at h
  | scr s => simp [seqOf, lstOf] at h
  | _ => simp only [bIx, h, atI_natC, hd]
theorem mapM_get {α β : Type} {f : α → Option β} : ∀ {as : List α} {bs : List β}, as.mapM f = some bs → as.length = bs.length ∧ ∀ (j : Nat) (a : α), as[j]? = some a → ∃ b, bs[j]? = some b ∧ f a = some b
  | [], bs, h => by simp at h; subst h; exact ⟨rfl, fun j a h => by simp at h⟩
  | a :: as, bs, h => by
    obtain ⟨b, bs', h1, h2, rfl⟩ := mapM_cons' h
    obtain ⟨i1, i2⟩ := mapM_get h2
    refine ⟨by simp [i1], fun j x hx => ?_⟩
    cases j with
    | zero => simp at hx; subst hx; exact ⟨b, rfl, h1⟩
    | succ j => simpa using i2 j x (by simpa using hx)
theorem py_list {k : Nat} {G : GS} {a : D} {ps : List PyData} (h : pyD (k + 1) G a = some (.list ps)) : ∃ es, seqOf G a = some es ∧ tyD G a = some "list" ∧ es.mapM (pyD k G) = some ps := by
  cases a with
  | lst ds =>
    simp only [pyD, Option.map_eq_some_iff] at h
    obtain ⟨qs, h1, e⟩ := h
    injection e with e; subst e
    exact ⟨ds, rfl, rfl, h1⟩
  | ref n =>
    simp only [pyD] at h
    cases g : G[n]? with
    | none => simp [g] at h
    | some ob =>
      cases ob with
      | ins _ _ => simp [g] at h
      | dcT _ _ => simp [g] at h
      | dic _ _ => simp [g] at h
      | lst ds =>
        simp only [g, Option.map_eq_some_iff] at h
        obtain ⟨qs, h1, e⟩ := h
        injection e with e; subst e
        exact ⟨ds, by simp [seqOf, lstOf, g], by simp [tyD, g], h1⟩
  | tup ds =>
    simp only [pyD, Option.map_eq_some_iff] at h
    obtain ⟨qs, h1, e⟩ := h
    cases e
  | _ => simp [pyD] at h
theorem py_tuple {k : Nat} {G : GS} {a : D} {ps : List PyData} (h : pyD (k + 1) G a = some (.tuple ps)) : ∃ es, seqOf G a = some es ∧ tyD G a = some "tuple" ∧ es.mapM (pyD k G) = some ps := by
  cases a with
  | tup ds =>
    simp only [pyD, Option.map_eq_some_iff] at h
    obtain ⟨qs, h1, e⟩ := h
    injection e with e; subst e
    exact ⟨ds, rfl, rfl, h1⟩
  | lst ds =>
    simp only [pyD, Option.map_eq_some_iff] at h
    obtain ⟨qs, h1, e⟩ := h
    cases e
  | ref n =>
    simp only [pyD] at h
    cases g : G[n]? with
    | none => simp [g] at h
    | some ob =>
      cases ob with
      | ins _ _ => simp [g] at h
      | dcT _ _ => simp [g] at h
      | dic _ _ => simp [g] at h
      | lst ds =>
        simp only [g, Option.map_eq_some_iff] at h
        obtain ⟨qs, h1, e⟩ := h
        cases e
  | _ => simp [pyD] at h
theorem py_flat {k : Nat} {G : GS} {a : D} : (pyD (k + 1) G a = some .none → a = .non) ∧ (∀ b, pyD (k + 1) G a = some (.bool b) → a = .bl b) ∧ (∀ i, pyD (k + 1) G a = some (.int i) → a = .int i) ∧ (∀ s, pyD (k + 1) G a = some (.str s) → ∃ l, a = .str l ∧ s = S l) := by
  cases a with
  | non => simp [pyD]
  | bl b => simp [pyD]
  | int i => simp [pyD]
  | str s => simp [pyD, eq_comm]
  | tup ds => simp [pyD]
  | lst ds => simp [pyD]
  | dic _ _ => simp [pyD]
  | exn _ _ _ _ => simp [pyD]
  | scr _ => simp [pyD]
  | key _ => simp [pyD]
  | ref n =>
    simp only [pyD]
    cases g : G[n]? with
    | none => simp
    | some ob => cases ob <;> simp
theorem isi_of {G : GS} {a : D} {t T : String} {b : Bool} (h : tyD G a = some t) (k : kitB t T = some b) : fIsi T a G = .ok (.bl b) G := by
  simp only [fIsi, h, k]
theorem kit_ll : kitB "list" "list" = some true := by decide +kernel
theorem kit_lt : kitB "list" "tuple" = some false := by decide +kernel
theorem kit_tl : kitB "tuple" "list" = some false := by decide +kernel
theorem kit_tt : kitB "tuple" "tuple" = some true := by decide +kernel
theorem kit_nl : kitB "NoneType" "list" = some false := by decide +kernel
theorem kit_nt : kitB "NoneType" "tuple" = some false := by decide +kernel
theorem kit_bl : kitB "bool" "list" = some false := by decide +kernel
theorem kit_bt : kitB "bool" "tuple" = some false := by decide +kernel
theorem kit_bb : kitB "bool" "bool" = some true := by decide +kernel
theorem kit_bi : kitB "bool" "int" = some true := by decide +kernel
theorem kit_il : kitB "int" "list" = some false := by decide +kernel
theorem kit_it : kitB "int" "tuple" = some false := by decide +kernel
theorem kit_ib : kitB "int" "bool" = some false := by decide +kernel
theorem kit_is : kitB "int" "str" = some false := by decide +kernel
theorem kit_ii : kitB "int" "int" = some true := by decide +kernel
theorem kit_sl : kitB "str" "list" = some false := by decide +kernel
theorem kit_st : kitB "str" "tuple" = some false := by decide +kernel
theorem kit_sb : kitB "str" "bool" = some false := by decide +kernel
theorem kit_ss : kitB "str" "str" = some true := by decide +kernel
theorem kit_si : kitB "str" "int" = some false := by decide +kernel
theorem kit_bs : kitB "bool" "str" = some false := by decide +kernel
/-- over a list from its beginning -/
theorem for_all {g : DG} {body : DS} (Inv : Nat → PEnv → GS → Prop) {ds : List D} {σ : PEnv} {G : GS} (h0 : Inv 0 σ G)
    (st : ∀ (j : Nat) (d : D) (σ : PEnv) (G : GS), ds[j]? = some d → Inv j σ G → ∃ σ1 σ' G', g d σ = some σ1 ∧ (body σ1 G = .nx σ' G' ∨ body σ1 G = .cont σ' G') ∧ Inv (j + 1) σ' G') :
    ∃ σ' G', forL g body ds σ G = .nx σ' G' ∧ Inv ds.length σ' G' := by
  have := for_inv (g := g) (body := body) Inv ds 0 σ G h0 fun j d σ G hd hi => by
    rw [Nat.zero_add] at hi ⊢
    exact st j d σ G hd hi
  rwa [Nat.zero_add] at this
/-- over range(n) -/
theorem for_rng {g : DG} {body : DS} (Inv : Nat → PEnv → GS → Prop) {n : Nat} {σ : PEnv} {G : GS} (h0 : Inv 0 σ G)
    (st : ∀ (j : Nat) (σ : PEnv) (G : GS), j < n → Inv j σ G → ∃ σ1 σ' G', g (.int (j : Int)) σ = some σ1 ∧ (body σ1 G = .nx σ' G' ∨ body σ1 G = .cont σ' G') ∧ Inv (j + 1) σ' G') :
    ∃ σ' G', forL g body (rngD 0 n) σ G = .nx σ' G' ∧ Inv n σ' G' := by
  have := for_all (g := g) (body := body) Inv (ds := rngD 0 n) h0 fun j d σ G hd hi => by
    obtain ⟨hj, e⟩ := rngD_get hd
    rw [Int.zero_add] at e
    subst e
    exact st j σ G hj hi
  rwa [rngD_len] at this
theorem rng1_nat {n : Nat} {G : GS} (h : n < 2 ^ 62) : rng1 [.int (n : Int)] G = .ok (rngD 0 n) G := by
  have := rng1_ok (n := (n : Int)) (G := G) (by omega) (by omega)
  simpa using this
theorem repOk_ok {n : Int} {l : Nat} (h1 : 0 ≤ n) (h2 : n ≤ 1000) (h3 : l ≤ 10000) : repOk n l = true := by
  rw [repOk_eq, decide_eq_true (by omega), decide_eq_true (by omega), decide_eq_true]
  · rfl
  · have : l * n.toNat ≤ 10000 * 1000 := Nat.mul_le_mul h3 (by omega)
    unfold maxLine; omega
theorem mulStr {a : List Nat} {n : Int} {G : GS} (h1 : 0 ≤ n) (h2 : n ≤ 1000) (h3 : a.length ≤ 10000) : bMul (.str a) (.int n) G = .ok (.str (repL a n.toNat)) G := by
  simp only [bMul]
  rw [if_pos (repOk_ok h1 h2 h3)]
theorem mulLst {a : List D} {n : Int} {G : GS} (h1 : 0 ≤ n) (h2 : n ≤ 1000) (h3 : a.length ≤ 10000) : bMul (.lst a) (.int n) G = .ok (.lst (repL a n.toNat)) G := by
  simp only [bMul, lstOf]
  rw [if_pos (repOk_ok h1 h2 h3)]
theorem finish_top {β : Type} {G' : GS} {d : D} {k : D → GS → RE β} (h : nrD d = true) : finish subD [] d G' k = k d [] := by
  have := finish_nr (G := []) (t := G') (k := k) h
  simpa using this
theorem subS_iff (a b : List Nat) : subS a b = true ↔ ∃ i, i + a.length ≤ b.length ∧ (b.drop i).take a.length = a := by
  unfold subS
  rw [PySem.StrLaws.found_iff]
  constructor
  · rintro ⟨i, h1, h2⟩
    rw [PySem.StrLaws.subAt_eq, beq_iff_eq, S_cps, S_cps, S_len] at h2
    rw [S_len, S_len] at h1
    exact ⟨i, h1, h2⟩
  · rintro ⟨i, h1, h2⟩
    refine ⟨i, by rw [S_len, S_len]; exact h1, ?_⟩
    rw [PySem.StrLaws.subAt_eq, beq_iff_eq, S_cps, S_cps, S_len]
    exact h2
theorem subS_false {c : Nat} {r b : List Nat} (h : ¬ c ∈ b) : subS (c :: r) b = false := by
  cases q : subS (c :: r) b with
  | false => rfl
  | true =>
    obtain ⟨i, _, e⟩ := (subS_iff _ _).mp q
    have : c ∈ (b.drop i).take (c :: r).length := by rw [e]; exact List.mem_cons_self
    exact absurd (List.mem_of_mem_drop (List.mem_of_mem_take this)) h
theorem repL_rep (c : Nat) : ∀ n, repL [c] n = List.replicate n c
  | 0 => rfl
  | n + 1 => by rw [repL, repL_rep c n]; rfl
theorem fuel_gt {n : Nat} (h : n < 1000000) : n < fuel := h
end Dl
namespace Dl
open PySem L2
/-! ## a value that is closed: what the expression made besides is forgotten -/
def sealE (G : GS) (r : RE D) : RE D := match r with
  | .ok d G' => finish subD G d G' .ok
  | .exc c fs G' => .exc c fs G'
  | .bad => .bad
def eSeal (e : DE) : DE := fun σ G => sealE G (e σ G)
section
variable {X : Cx} {W : WX}
theorem seal_le {d : DE} (σ : L2.St) (H : Hp) (Q : VK) (h : tE X.K X.mg W (eSeal d) σ H Q) : tE X.K X.mg W d σ H Q := by
  obtain ⟨ρ, σd, G, c, h⟩ := h
  refine ⟨ρ, σd, G, c, ?_⟩
  unfold eSeal sealE at h
  cases q : d σd G with
  | bad => rw [q] at h; exact h
  | exc cc fs G' => rw [q] at h; exact h
  | ok a G' =>
    rw [q] at h
    intro ρ' H' v e s r
    obtain ⟨ρ2, G2, d2, e2, s2, r2, h2⟩ := finish_ok (R := RD X.K) (v := v) (fun f n d' hf q r => RD.sub hf q r) c.rs e s r h
    exact h2 ρ2 H' v e2 s2 r2
theorem le_seal {e : Expr} {d : DE} (h : PEd X W e d) : PEd X W e (eSeal d) := h.le fun σ H Q q => seal_le σ H Q q

/-! ## list comprehensions -/
def WN : WX := fun _ _ _ _ => False
def wipeD (σ : PEnv) : List Nat → PEnv
  | [] => σ
  | v :: vs => (wipeD σ vs).set v none
theorem wipeD_len (σ : PEnv) : ∀ vs, (wipeD σ vs).length = σ.length
  | [] => rfl
  | v :: vs => by unfold wipeD; rw [List.length_set, wipeD_len σ vs]
theorem Ct.unset {K : PySem.W.Frag} {mg : MG} {ρ : List Addr} {σd : PEnv} {G : GS} {σ : L2.St} {H : Hp} (c : Ct K mg ρ σd G σ H) (i : Nat) : Ct K mg ρ (σd.set i none) G (σ.set i none) H := by
  refine ⟨c.rs, by simp [c.len], fun j d h => ?_⟩
  by_cases hij : i = j
  · subst hij
    have hi : i < σd.length := by have := (List.getElem?_eq_some_iff.mp h).1; simpa using this
    rw [List.getElem?_set_self hi] at h
    cases h
  · rw [List.getElem?_set_ne hij] at h
    rw [List.getElem?_set_ne hij]
    exact c.at_ j d h
theorem Ct.wiped {K : PySem.W.Frag} {mg : MG} {ρ : List Addr} {σd : PEnv} {G : GS} {σ : L2.St} {H : Hp} (c : Ct K mg ρ σd G σ H) : ∀ vs, Ct K mg ρ (wipeD σd vs) G (wipe σ vs) H
  | [] => c
  | v :: vs => (Ct.wiped c vs).unset v
theorem wipe_set {σ : L2.St} {i : Nat} {v : V} : ∀ {vs : List Nat}, i ∈ vs → wipe (σ.set i (some v)) vs = wipe σ vs
  | [], h => by simp at h
  | j :: vs, h => by
    unfold wipe
    by_cases hi : i ∈ vs
    · rw [wipe_set hi]
    · have e : i = j := by
        rcases List.mem_cons.mp h with h | h
        · exact h
        · exact absurd h hi
      subst e
      have : ∀ vs : List Nat, i ∉ vs → wipe (σ.set i (some v)) vs = (wipe σ vs).set i (some v) := fun vs => by
        induction vs with
        | nil => intro _; rfl
        | cons k ks ih =>
          intro hk
          unfold wipe
          rw [ih fun z => hk (List.mem_cons_of_mem _ z)]
          exact List.set_comm _ _ (fun z => hk (by rw [z]; exact List.mem_cons_self))
      rw [this vs hi, List.set_set]
/-- the targets of a comprehension: a name, or a tuple of names -/
inductive CG where
  | one (i : Nat) | tup (is : List Nat)
def setsD : List Nat → List D → PEnv → Option PEnv
  | [], [], σ => some σ
  | i :: is, d :: ds, σ => setsD is ds (σ.set i (some d))
  | _, _, _ => none
def CG.d (g : CG) : DG := fun d σ => match g with
  | .one i => some (σ.set i (some d))
  | .tup is => match d with
    | .tup ds => setsD is ds σ
    | _ => none
def gNames : List Nat → TGs
  | [] => gNil
  | i :: is => gCons (gName i) (gNames is)
def CG.v (K : PySem.W.Frag) : CG → TG
  | .one i => gName i
  | .tup is => gTup K is.length (gNames is)
def CG.slots : CG → List Nat
  | .one i => [i]
  | .tup is => is
theorem sets_ok {K : PySem.W.Frag} {mg : MG} {ρ : List Addr} {G : GS} {H : Hp} {vs : List Nat} {w : L2.St} : ∀ {is : List Nat} {ds : List D} {σd σd' : PEnv} {σ : L2.St} {xs : List V} {Q : L2.St → Hp → Prop}, (∀ i ∈ is, i ∈ vs) → setsD is ds σd = some σd' → Ct K mg ρ σd G σ H → RDs K ρ H ds xs → wipe σ vs = w →
    (∀ σ', Ct K mg ρ σd' G σ' H → wipe σ' vs = w → Q σ' H) → gNames is xs σ H Q
  | [], [], σd, σd', σ, xs, Q, _, e, c, r, hw, k => by
    cases (show _ = _ from r)
    simp only [setsD, Option.some.injEq] at e
    subst e
    exact ⟨rfl, k σ c hw⟩
  | i :: is, d :: ds, σd, σd', σ, xs, Q, hi, e, c, r, hw, k => by
    obtain ⟨v, r', ex, r1, r2⟩ := r
    subst ex
    simp only [setsD] at e
    refine ⟨v, r', rfl, ?_⟩
    show gNames is r' (σ.set i (some v)) H Q
    exact sets_ok (fun j hj => hi j (List.mem_cons_of_mem _ hj)) e (c.set r1) r2 (by rw [wipe_set (hi i List.mem_cons_self)]; exact hw) k
  | [], _ :: _, _, _, _, _, _, _, e, _, _, _, _ => by simp [setsD] at e
  | _ :: _, [], _, _, _, _, _, _, e, _, _, _, _ => by simp [setsD] at e
theorem sets_len : ∀ {is : List Nat} {ds : List D} {σ σ' : PEnv}, setsD is ds σ = some σ' → ds.length = is.length
  | [], [], _, _, _ => rfl
  | i :: is, d :: ds, σ, σ', e => by simp only [setsD] at e; simp [sets_len e]
  | [], _ :: _, _, _, e => by simp [setsD] at e
  | _ :: _, [], _, _, e => by simp [setsD] at e
theorem cg_ok {K : PySem.W.Frag} {mg : MG} {ρ : List Addr} {G : GS} {H : Hp} {vs : List Nat} {g : CG} {d : D} {σd σd' : PEnv} {σ : L2.St} {x : V} {Q : L2.St → Hp → Prop} (hi : ∀ i ∈ g.slots, i ∈ vs) (e : g.d d σd = some σd') (c : Ct K mg ρ σd G σ H) (r : RD K ρ H d x)
    (k : ∀ σ', Ct K mg ρ σd' G σ' H → wipe σ' vs = wipe σ vs → Q σ' H) : g.v K x σ H Q := by
  cases g with
  | one i =>
    simp only [CG.d, Option.some.injEq] at e
    subst e
    exact k _ (c.set r) (wipe_set (hi i (by simp [CG.slots])))
  | tup is =>
    cases d with
    | tup ds =>
      obtain ⟨a, xs, rfl, t, rs⟩ := r
      simp only [CG.d] at e
      exact ⟨a, xs, rfl, t.sq, by rw [← rs.length, sets_len e], sets_ok hi e c rs rfl k⟩
    | _ => simp [CG.d] at e
/-- an exception that would leave the comprehension is not followed -/
def bindN {α β : Type} (r : RE α) (f : α → GS → RE β) : RE β := match r with
  | .ok a G => f a G
  | _ => .bad
@[simp] theorem bindN_ok {α β : Type} (a : α) (G : GS) (f : α → GS → RE β) : bindN (.ok a G) f = f a G := rfl
def lcL (n : Nat) (g : DG) (t : DT) (e : DE) (σ : PEnv) : List D → GS → RE D
  | [], G => .ok (.ref n) G
  | d :: ds, G => match g d σ with
    | some σ2 => bindN (t σ2 G) fun k G1 => if k = true then bindN (e σ2 G1) fun y G2 => match G2[n]? with
        | some (.lst acc) => if acc.length < maxLine then lcL n g t e σ ds (G2.set n (.lst (acc ++ [y]))) else .bad
        | _ => .bad
      else lcL n g t e σ ds G1
    | none => .bad
def eLcN (it : DI) (g : CG) (t : DT) (e : DE) (vs : List Nat) : DE := fun σ G => bindE (it σ G) fun ds G1 => lcL G1.length g.d t e (wipeD σ vs) ds (G1 ++ [.lst []])
def dYes : DT := fun _ G => .ok true G
theorem EP'.bindN' {K : PySem.W.Frag} {mg : MG} {W W' : XK} {ρ : List Addr} {H : Hp} {α β α' β' : Type} {R : List Addr → Hp → α → β → Prop} {R' : List Addr → Hp → α' → β' → Prop} {r : RE α} {f : α → GS → RE α'} {Q : β' → Hp → Prop} (h : EP' K mg R' W ρ H (bindN r f) Q) :
    EP' K mg R W' ρ H r (fun v H1 => ∃ ρ1 G1 a, Ext ρ H ρ1 H1 ∧ RS K mg ρ1 G1 H1 ∧ R ρ1 H1 a v ∧ EP' K mg R' W ρ1 H1 (f a G1) Q) := by
  cases r with
  | ok a G' => exact fun ρ' H' v e s d => ⟨ρ', G', a, e, s, d, EP'.deeper e h⟩
  | exc c fs G' => exact h.elim
  | bad => exact h.elim
theorem lc_le {it : DI} {g : CG} {t : DT} {e : DE} {vs : List Nat} (hv : ∀ i ∈ g.slots, i ∈ vs) (σ : L2.St) (H : Hp) (Q : VK) (h : tE X.K X.mg W (eLcN it g t e vs) σ H Q) : tLc (tI X.K X.mg W it) (g.v X.K) (tT X.K X.mg WN t) (tE X.K X.mg WN e) vs σ H Q := by
  obtain ⟨ρ, σd, G, c, h⟩ := h
  refine ⟨ρ, σd, G, c, (EP'.bind h).mono fun _ H1 _ _ J _ _ _ _ ⟨ρ1, G1, ds, e1, s1, w1, _, h1⟩ => fun D hD => ?_⟩
  obtain ⟨ep, sp⟩ := s1.push (o := .lst []) (ob := .lst []) hD fun ex => ⟨[], upd_same, rfl⟩
  have c1 := (c.ext e1 s1).wiped vs
  have hDn : (ρ1 ++ [D])[G1.length]? = some D := by rw [← s1.len, List.getElem?_append_right (Nat.le_refl _)]; simp
  refine ⟨fun i m H => m = ds.length - i ∧ i ≤ ds.length ∧ ∃ ρ2 G2, Ext (ρ1 ++ [D]) (upd H1 D (.lst [])) ρ2 H ∧ RS X.K X.mg ρ2 G2 H ∧ EPD X.K X.mg (WA W σ) ρ2 H (lcL G1.length g.d t e (wipeD σd vs) (ds.drop i) G2) Q,
    ⟨ds.length, by simp, Nat.zero_le _, ρ1 ++ [D], G1 ++ [.lst []], .refl _ _, sp, by rw [List.drop_zero]; exact EP'.deeper ep h1⟩, ?_⟩
  rintro i m H2 ⟨rfl, hi, ρ2, G2, e2, s2, h2⟩
  obtain ⟨wstop, wgo⟩ := w1 i ρ2 G2 H2 (ep.trans e2) s2
  by_cases hlt : i < ds.length
  · obtain ⟨go, yl⟩ := wgo ds[i] (by simp [hlt])
    rw [List.drop_eq_getElem_cons hlt] at h2
    simp only [lcL] at h2
    refine .inr ⟨go, fun H' => ∃ ρ2 G2, Ext (ρ1 ++ [D]) (upd H1 D (.lst [])) ρ2 H' ∧ RS X.K X.mg ρ2 G2 H' ∧ EPD X.K X.mg (WA W σ) ρ2 H' (lcL G1.length g.d t e (wipeD σd vs) (ds.drop (i + 1)) G2) Q,
      fun H' q => ⟨ds.length - (i + 1), by omega, rfl, hlt, q⟩, fun x H' y => ?_⟩
    obtain ⟨e3, s3, r3⟩ := yl x H' y
    have c3 : Ct X.K X.mg ρ2 (wipeD σd vs) G2 (wipe σ vs) H' := c1.ext ((ep.trans e2).trans e3) s3
    cases q : g.d ds[i] (wipeD σd vs) with
    | none => simp only [q] at h2; exact h2.elim
    | some σ2 =>
      simp only [q] at h2
      refine cg_ok hv q c3 r3 fun σ' c4 hw => ⟨?_, ρ2, σ2, G2, c4, (EP'.bindN' (EP'.deeper e3 h2)).mono fun _ H5 _ _ b _ _ _ _ ⟨ρ5, G5, k, e5, s5, d5, h5⟩ => ?_⟩
      · rw [hw]
        have : ∀ us, (∀ i ∈ us, i ∈ vs) → wipe (wipe σ vs) us = wipe σ vs := by
          intro us
          induction us with
          | nil => intro _; rfl
          | cons u us ih =>
            intro hu
            show (wipe (wipe σ vs) us).set u none = _
            rw [ih fun i hi => hu i (List.mem_cons_of_mem _ hi)]
            have hz := hu u List.mem_cons_self
            have : (wipe σ vs)[u]? = some none ∨ (wipe σ vs)[u]? = none := by
              cases z : (wipe σ vs)[u]? with
              | none => exact .inr rfl
              | some o =>
                cases o with
                | none => exact .inl rfl
                | some v => exact absurd hz (wipe_some z).2
            rcases this with this | this
            · obtain ⟨hl, ev⟩ := List.getElem?_eq_some_iff.mp this
              rw [← ev]; exact List.set_getElem_self hl
            · exact List.set_eq_of_length_le (List.getElem?_eq_none_iff.mp this)
        exact this vs fun i hi => hi
      · subst d5
        cases k with
        | false => exact ⟨ρ5, G5, (e2.trans e3).trans e5, s5, h5⟩
        | true =>
          refine ⟨ρ5, σ2, G5, c4.ext e5 s5, (EP'.bindN' h5).mono fun _ H6 _ _ y _ _ _ _ ⟨ρ6, G6, a6, e6, s6, d6, h6⟩ => ?_⟩
          have eall := ((e2.trans e3).trans e5).trans e6
          cases gq : G6[G1.length]? with
          | none => simp only [gq] at h6; exact h6.elim
          | some ob =>
            cases ob with
            | ins _ _ => simp only [gq] at h6; exact h6.elim
            | dcT _ _ => simp only [gq] at h6; exact h6.elim
            | dic _ _ => simp only [gq] at h6; exact h6.elim
            | lst acc =>
              simp only [gq] at h6
              have hD6 := eall.get hDn
              obtain ⟨vs6, hv6, rv6⟩ := s6.at_ _ D _ hD6 gq
              by_cases hl : acc.length < maxLine
              · rw [if_pos hl] at h6
                refine ⟨vs6, hv6, by rw [← rv6.length, ← maxLine_eq]; exact hl, ?_⟩
                obtain ⟨e7, s7⟩ := s6.write (o := .lst (vs6 ++ [y])) (ob := .lst (acc ++ [a6])) hD6 fun ex => ⟨_, upd_same, (rv6.ext ex).append (RDs.cons (d6.ext ex) RDs.nil)⟩
                exact ⟨ρ6, _, eall.trans e7, s7, EP'.deeper e7 h6⟩
              · rw [if_neg hl] at h6; exact h6.elim
  · have ei : i = ds.length := by omega
    subst ei
    rw [List.drop_length] at h2
    exact .inl ⟨wstop (Nat.le_refl _), h2 ρ2 H2 _ (.refl _ _) s2 ⟨D, e2.get hDn, rfl⟩⟩

theorem takesN : L2.Takes X WN := fun _ _ x => by
  obtain ⟨_, _, _, _, _, _, _, _, _, _, _, _, _, _, _, _, z⟩ := x
  exact z.elim
theorem _root_.L2.PTs.le {es : List Expr} {t t' : TT} (h : PTs X es t) (k : ∀ σ H Q, t' σ H Q → t σ H Q) : PTs X es t' := ⟨fun pins s σ H Q I q => h.run pins s σ H Q I (k σ H Q q)⟩
theorem le_pts0 : PTs X [] (tT X.K X.mg W dYes) := pts_nil.le fun σ H Q ⟨ρ, σd, G, c, h⟩ => h ρ H true (.refl _ _) c.rs rfl
theorem asg_le {i : Nat} {d : DE} {Dn : Ends} {σ : L2.St} {H : Hp} (h : tS X.K X.mg W (sAsg i d) Dn σ H) : tE X.K X.mg W d σ H (fun x H1 => gName i x σ H1 Dn.nx) := by
  obtain ⟨ρ, σd, G, c, h⟩ := h
  exact ⟨ρ, σd, G, c, (SPst.bind c h).mono fun _ _ _ _ _ _ _ _ _ ⟨ρ1, G1, a, e1, c1, d1, h1⟩ => h1 _ _ _ (.refl _ _) (c1.set d1)⟩
theorem le_lc {elt tg iter : Expr} {ifs : List Expr} {scope : Scope} {own : List (Str × Nat)} {pos : Pos} {it : DI} {g : CG} {t : DT} {e : DE} (hc : X.calm = true) (hN : X.N.Nodup) (hi : PId X W tg iter it) (ok : BlkOk X.N X.env.scope scope own) (hv : ∀ i ∈ g.slots, i ∈ own.map (·.2))
    (hg : ∀ (s : Shared) (H : Hp) (C : Addr) (cl : List (Str × Addr)) (fp : List Addr), PG (X.blk s H scope (compEnvC scope cl C X.env) fp) tg (g.v X.K)) (ht : ∀ (s : Shared) (H : Hp) (C : Addr) (cl : List (Str × Addr)) (fp : List Addr), PTs (X.blk s H scope (compEnvC scope cl C X.env) fp) ifs (tT X.K X.mg WN t))
    (he : ∀ (s : Shared) (H : Hp) (C : Addr) (cl : List (Str × Addr)) (fp : List Addr), PEd (X.blk s H scope (compEnvC scope cl C X.env) fp) WN elt e) (hs : ∀ x, foldedSetIterable iter X.env x = pure x := by intro _; rfl) :
    PEd X W (.ListComp elt [⟨tg, iter, ifs, 0⟩] scope pos) (eLcN it g t e (own.map (·.2))) :=
  (pe_lc hc hN hi ok hg ht he hs).le fun σ H Q h => lc_le hv σ H Q h
theorem le_setLc {i : Nat} {y : Str} {py : Pos} {elt tg iter : Expr} {ifs : List Expr} {scope : Scope} {own : List (Str × Nat)} {pos spos : Pos} {it : DI} {g : CG} {t : DT} {e : DE} (hc : X.calm = true) (hN : X.N.Nodup) (hi : PId X W tg iter it) (ok : BlkOk X.N X.env.scope scope own) (hv : ∀ i ∈ g.slots, i ∈ own.map (·.2))
    (hsw : swapsWith (.ListComp elt [⟨tg, iter, ifs, 0⟩] scope pos) (some (.Name y py)) spos.line X.env = pure true)
    (hg : ∀ (s : Shared) (H : Hp) (C : Addr) (cl : List (Str × Addr)) (fp : List Addr), PG (X.blk s H scope (compEnvC scope cl C X.env) fp) tg (g.v X.K)) (ht : ∀ (s : Shared) (H : Hp) (C : Addr) (cl : List (Str × Addr)) (fp : List Addr), PTs (X.blk s H scope (compEnvC scope cl C X.env) fp) ifs (tT X.K X.mg WN t))
    (he : ∀ (s : Shared) (H : Hp) (C : Addr) (cl : List (Str × Addr)) (fp : List Addr), PEd (X.blk s H scope (compEnvC scope cl C X.env) fp) WN elt e) (hs : ∀ x, foldedSetIterable iter X.env x = pure x := by intro _; rfl)
    (hy : X.N[i]? = some y := by rfl) (hyl : X.env.scope.names.lookup y = some .local := by rfl) :
    PSd X W (.Assign [.Name y py] (.ListComp elt [⟨tg, iter, ifs, 0⟩] scope pos) spos) (sAsg i (eLcN it g t e (own.map (·.2)))) :=
  (ps_setLc hc hN hy hyl hsw hi ok hg ht he hs).le fun Dn σ H h => lc_le hv σ H _ (asg_le h)
theorem le_setLcS {i : Nat} {y : Str} {py : Pos} {elt tg iter : Expr} {ifs : List Expr} {scope : Scope} {own : List (Str × Nat)} {pos spos : Pos} {it : DI} {g : CG} {t : DT} {e : DE} (hc : X.calm = true) (hN : X.N.Nodup) (hi : PId X W tg iter it) (ok : BlkOk X.N X.env.scope scope own) (hv : ∀ i ∈ g.slots, i ∈ own.map (·.2))
    (hsw : swapsWith (.ListComp elt [⟨tg, iter, ifs, 0⟩] scope pos) (some (.Name y py)) spos.line X.env = pure true)
    (hg : ∀ (s : Shared) (H : Hp) (C : Addr) (cl : List (Str × Addr)) (fp : List Addr), PG (X.blk s H scope (compEnvC scope cl C X.env) fp) tg (g.v X.K)) (ht : ∀ (s : Shared) (H : Hp) (C : Addr) (cl : List (Str × Addr)) (fp : List Addr), PTs (X.blk s H scope (compEnvC scope cl C X.env) fp) ifs (tT X.K X.mg WN t))
    (he : ∀ (s : Shared) (H : Hp) (C : Addr) (cl : List (Str × Addr)) (fp : List Addr), PEd (X.blk s H scope (compEnvC scope cl C X.env) fp) WN elt e) (hs : ∀ x, foldedSetIterable iter X.env x = pure x := by intro _; rfl)
    (hy : X.N[i]? = some y := by rfl) (hyl : X.env.scope.names.lookup y = some .local := by rfl) :
    PSd X W (.Assign [.Name y py] (.ListComp elt [⟨tg, iter, ifs, 0⟩] scope pos) spos) (sAsg i (eSeal (eLcN it g t e (own.map (·.2))))) :=
  (ps_setLc hc hN hy hyl hsw hi ok hg ht he hs).le fun Dn σ H h => lc_le hv σ H _ (seal_le σ H _ (asg_le h))
end
end Dl
namespace Dl
open PySem L2
section
variable {X : Cx} {W : WX}
/-! ## walking along anything: a list, a tuple, a text; a list that stands open is looked at in each turn -/
theorem _root_.L2.PI.or {tg e : Expr} {t1 t2 : TI} (h1 : PI X tg e t1) (h2 : PI X tg e t2) : PI X tg e (fun σ H R => t1 σ H R ∨ t2 σ H R) := ⟨fun pins s σ H R I q => q.elim (h1.run pins s σ H R I) (h2.run pins s σ H R I)⟩
def chars (cs : List Nat) : List D := cs.map fun c => .str [c]
def iSeqS (e : DE) : DI := fun σ G => bindE (e σ G) fun d G1 => match d with | .str cs => .ok (chars cs) G1 | _ => .bad
theorem iS_le {d : DE} (σ : L2.St) (H : Hp) (R : It → Hp → Prop) (h : tI X.K X.mg W (iSeqS d) σ H R) : iStr (tE X.K X.mg W d) σ H R := by
  obtain ⟨ρ, σd, G, c, h⟩ := h
  refine ⟨ρ, σd, G, c, (EP'.bind h).mono fun _ H1 _ _ _ _ _ _ _ ⟨ρ1, G1, a, e1, s1, d1, _, h1⟩ => ?_⟩
  cases a with
  | str cs =>
    cases (show _ = _ from d1)
    refine ⟨S cs, rfl, h1 ρ1 H1 _ (.refl _ _) s1 fun i ρ' G' H' e s => ⟨fun hl => ?_, fun d hd => ?_⟩⟩
    · have hl : cs.length ≤ i := by simpa [chars] using hl
      show (S cs).cps.size ≤ i
      simpa [S] using hl
    · have hi : i < cs.length := by simpa [chars] using (List.getElem?_eq_some_iff.mp hd).1
      have hd' : d = .str [cs[i]] := by simp [chars, hi] at hd; exact hd.symm
      refine ⟨by show i < (S cs).cps.size; simpa [S] using hi, fun x H'' ⟨eh, c, hc, ex⟩ => ?_⟩
      subst eh
      refine ⟨.refl _ _, s, ?_⟩
      have : c = cs[i] := by simp [S, hi] at hc; exact hc.symm
      rw [ex, hd', this]
      rfl
  | _ => exact h1.elim
def iA (K : PySem.W.Frag) (te : TE) : TI := fun σ H R => iList K te σ H R ∨ (iTup K te σ H R ∨ iStr te σ H R)
theorem pi_any {tg e : Expr} {te : TE} (he : PE X e te) : PI X tg e (iA X.K te) := (pi_list he).or ((pi_tup he).or (pi_str he))
def forR (g : DG) (body : DS) (n : Nat) : Nat → Nat → DS
  | 0, _ => fun _ _ => .bad
  | f + 1, i => fun σ G => match G[n]? with
    | some (.lst ds) => match ds[i]? with
      | some d => match g d σ with
        | some σ1 => turnR (body σ1 G) (forR g body n f (i + 1))
        | none => .bad
      | none => .nx σ G
    | _ => .bad
def forA (g : DG) (body : DS) : D → DS
  | .lst ds => forL g body ds
  | .tup ds => forL g body ds
  | .str cs => forL g body (chars cs)
  | .ref n => forR g body n fuel 0
  | _ => fun _ _ => .bad
def sForA (g : DG) (e : DE) (body : DS) : DS := fun σ G => bindS (e σ G) σ fun d G1 => forA g body d σ G1
theorem fuel_succ : ∃ f, fuel = f + 1 := ⟨999999, rfl⟩
theorem forA_le {g : DG} {e : DE} {db : DS} {Dn : Ends} {σ : L2.St} {H : Hp} (h : tS X.K X.mg W (sForA g e db) Dn σ H) : tFor (iA X.K (tE X.K X.mg W e)) (tG X.K X.mg g) (tS X.K X.mg W db) Dn σ H := by
  obtain ⟨ρ, σd, G, c, h⟩ := h
  unfold sForA at h
  cases q : e σd G with
  | bad => rw [q] at h; exact h.elim
  | exc cc fs G1 =>
    refine .inl (iL_le _ _ _ (for_le (W := W) ⟨ρ, σd, G, c, ?_⟩))
    unfold sFor iSeqL
    rw [q] at h ⊢
    exact h
  | ok d G1 =>
    rw [q] at h
    have h : SPst X.K X.mg W ρ H (forA g db d σd G1) Dn := h
    cases d with
    | lst ds =>
      refine .inl (iL_le _ _ _ (for_le (W := W) ⟨ρ, σd, G, c, ?_⟩))
      unfold sFor iSeqL
      rw [q]
      exact h
    | tup ds =>
      refine .inr (.inl (iT_le _ _ _ (for_le (W := W) ⟨ρ, σd, G, c, ?_⟩)))
      unfold sFor iSeqT
      rw [q]
      exact h
    | str cs =>
      refine .inr (.inr (iS_le _ _ _ (for_le (W := W) ⟨ρ, σd, G, c, ?_⟩)))
      unfold sFor iSeqS
      rw [q]
      exact h
    | ref n =>
      refine .inl ⟨ρ, σd, G, c, ?_⟩
      rw [q]
      intro ρ1 H1 v e1 s1 r1
      obtain ⟨p, hp, ev⟩ := r1
      have c1 := c.ext e1 s1
      have h : SPst X.K X.mg W ρ1 H1 (forR g db n fuel 0 σd G1) Dn := SPst.deeper e1 h
      have look : ∀ {f i ρ2 H2 σ2 σd2 G2}, ρ2[n]? = some p → Ct X.K X.mg ρ2 σd2 G2 σ2 H2 → SPst X.K X.mg W ρ2 H2 (forR g db n f i σd2 G2) Dn → ∃ f' ds vs, f = f' + 1 ∧ G2[n]? = some (.lst ds) ∧ SqL X.K H2 p vs ∧ RDs X.K ρ2 H2 ds vs := by
        intro f i ρ2 H2 σ2 σd2 G2 hp c h
        cases f with
        | zero => exact h.elim
        | succ f =>
          unfold forR at h
          cases z : G2[n]? with
          | none => rw [z] at h; exact h.elim
          | some ob =>
            cases ob with
            | ins _ _ => rw [z] at h; exact h.elim
            | dcT _ _ => rw [z] at h; exact h.elim
            | dic _ _ => rw [z] at h; exact h.elim
            | lst ds =>
              obtain ⟨vs, hv, rv⟩ := c.rs.at_ n p _ hp z
              exact ⟨f, ds, vs, rfl, rfl, .of hv, rv⟩
      obtain ⟨_, _, vs0, _, _, sq0, _⟩ := look hp c1 h
      refine ⟨p, ev, ⟨vs0, sq0⟩, ?_⟩
      refine ⟨fun i m σ H => ∃ ρ2 σd2 G2, Ext ρ1 H1 ρ2 H ∧ Ct X.K X.mg ρ2 σd2 G2 σ H ∧ SPst X.K X.mg W ρ2 H (forR g db n m i σd2 G2) Dn, ⟨fuel, ρ1, σd, G1, .refl _ _, c1, h⟩, ?_⟩
      rintro i m σ2 H2 ⟨ρ2, σd2, G2, e2, c2, h2⟩
      obtain ⟨f, ds, vs, ef, hG, sq, rv⟩ := look (e2.get hp) c2 h2
      subst ef
      unfold forR at h2
      rw [hG] at h2
      cases hd : ds[i]? with
      | none =>
        simp only [hd] at h2
        exact .inl ⟨⟨vs, sq, by rw [← rv.length]; exact List.getElem?_eq_none_iff.mp hd⟩, h2 _ _ _ (.refl _ _) c2⟩
      | some d =>
        simp only [hd] at h2
        obtain ⟨v, hv, rd⟩ := rv.get hd
        refine .inr ⟨⟨vs, v, sq, hv⟩, fun σ' H' => ∃ ρ3 σd3 G3, Ext ρ1 H1 ρ3 H' ∧ Ct X.K X.mg ρ3 σd3 G3 σ' H' ∧ SPst X.K X.mg W ρ3 H' (forR g db n f (i + 1) σd3 G3) Dn, fun σ' H' z => ⟨f, Nat.lt_succ_self _, z⟩, fun x H' ⟨eh, y⟩ => ?_⟩
        subst eh
        have := y vs sq
        rw [hv] at this
        cases this
        refine ⟨ρ2, σd2, G2, d, c2, rd, ?_⟩
        cases z : g d σd2 with
        | none => simp only [z] at h2; exact h2.elim
        | some σ1 =>
          simp only [z] at h2
          exact fun σ' c' => ⟨ρ2, σ1, G2, c', SPst.turnN h2 fun ρ' H' σ' σd' G' e c h => ⟨ρ', σd', G', e2.trans e, c, h⟩⟩
    | _ => exact h.elim
theorem le_forA {tg it : Expr} {pos : Pos} {body : List Stmt} {g : DG} {e : DE} {db : DS} (hp : PassesOwn (model X.prog X.w) X.A X.env X.xe) (hc : X.calm = true) (hi : PEd X W it e) (hg : PGd X tg g) (hb : PSsd X W body db)
    (hs : ∀ x, foldedSetIterable it X.env x = pure x := by intro _; rfl) : PSd X W (.For tg it body [] pos) (sForA g e db) :=
  (ps_for hp hc (pi_any hi) hg hb hs).le fun Dn σ H h => forA_le h
/-! ## enumerate -/
def enumD (k : Nat) : List D → List D
  | [] => []
  | d :: ds => .tup [.int (k : Nat), d] :: enumD (k + 1) ds
theorem enumD_len : ∀ k ds, (enumD k ds).length = ds.length
  | _, [] => rfl
  | k, d :: ds => by simp [enumD, enumD_len (k + 1) ds]
theorem enumD_get : ∀ {k : Nat} {ds : List D} {i : Nat} {d : D}, (enumD k ds)[i]? = some d → ∃ d0, ds[i]? = some d0 ∧ d = .tup [.int ((k + i : Nat) : Int), d0]
  | k, [], i, d, h => by simp [enumD] at h
  | k, d0 :: ds, 0, d, h => by simp [enumD] at h; exact ⟨d0, by simp, h.symm⟩
  | k, d0 :: ds, i + 1, d, h => by
    simp only [enumD, List.getElem?_cons_succ] at h
    obtain ⟨d1, h1, h2⟩ := enumD_get h
    exact ⟨d1, by simpa using h1, by rw [h2, show k + 1 + i = k + (i + 1) by omega]⟩
def enumR (ds : List D) (G : GS) : RE (List D) := match ds with
  | [.lst ds] => .ok (enumD 0 ds) G
  | _ => .bad
def iEn (a : DA) : DI := fun σ G => bindE (a σ G) enumR
theorem le_en {a : Expr} {da : DA} {p pos tpos : Pos} {elts : List Expr} {kk : Nat} (hg : Gl X "enumerate") (hm : X.mg "enumerate" = none) (ha : PAd X W [a] da) (hs : starEach [a] X.env = [(false, eval a X.env)] := by rfl) : PId X W (.Tuple elts kk tpos) (.Call (.Name "enumerate" p) [a] [] pos) (iEn da) := by
  refine (pi_enum hg hm ha hs).le fun σ H R ⟨ρ, σd, G, c, h⟩ => ⟨ρ, σd, G, c, (EP'.bind h).mono fun _ H1 _ _ vs _ _ _ _ ⟨ρ1, G1, ds, e1, s1, d1, _, h1⟩ => ?_⟩
  unfold enumR at h1
  split at h1
  · rename_i xs
    obtain ⟨v, r, ev, dv, dr⟩ := d1
    cases (show _ = _ from dr)
    subst ev
    obtain ⟨a, vs, ev, la, rv⟩ := dv
    subst ev
    have sq : ∀ {ρ' H'}, Ext ρ1 H1 ρ' H' → SqL X.K H' a vs := fun e => .of (e.keep _ _ la.1 la.2)
    refine ⟨a, vs, rfl, .of la.1, h1 ρ1 H1 _ (.refl _ _) s1 fun i ρ' G' H' e s => ⟨fun hl => ⟨vs, sq e, by rw [← rv.length]; rw [enumD_len] at hl; exact hl⟩, fun d hd => ?_⟩⟩
    obtain ⟨d0, h0, ed⟩ := enumD_get hd
    subst ed
    obtain ⟨v, hv, rd⟩ := rv.get h0
    refine ⟨⟨vs, v, sq e, hv⟩, fun x H'' ⟨T, x0, ex, hT, eh, y⟩ => ?_⟩
    have := y vs (sq e)
    rw [hv] at this
    cases this
    obtain ⟨ee, ss⟩ := s.lay (.tup [.int (i : Nat), v]) hT
    subst eh
    subst ex
    refine ⟨ee, ss, T, _, rfl, .inl ⟨.inl upd_same, s.fresh hT⟩, RDs.cons (by rw [Nat.zero_add]; rfl) (RDs.cons ((rd.ext e).ext ee) RDs.nil)⟩
  · exact h1.elim

/-! ## comprehensions over anything -/
theorem wipe_wipe {σ : L2.St} {vs : List Nat} : wipe (wipe σ vs) vs = wipe σ vs := by
  have : ∀ us, (∀ i ∈ us, i ∈ vs) → wipe (wipe σ vs) us = wipe σ vs := by
    intro us
    induction us with
    | nil => intro _; rfl
    | cons u us ih =>
      intro hu
      show (wipe (wipe σ vs) us).set u none = _
      rw [ih fun i hi => hu i (List.mem_cons_of_mem _ hi)]
      have hz := hu u List.mem_cons_self
      have : (wipe σ vs)[u]? = some none ∨ (wipe σ vs)[u]? = none := by
        cases z : (wipe σ vs)[u]? with
        | none => exact .inr rfl
        | some o =>
          cases o with
          | none => exact .inl rfl
          | some v => exact absurd hz (wipe_some z).2
      rcases this with this | this
      · obtain ⟨hl, ev⟩ := List.getElem?_eq_some_iff.mp this
        rw [← ev]; exact List.set_getElem_self hl
      · exact List.set_eq_of_length_le (List.getElem?_eq_none_iff.mp this)
  exact this vs fun i hi => hi
def lcR (n m : Nat) (g : DG) (t : DT) (e : DE) (σ : PEnv) : Nat → Nat → GS → RE D
  | 0, _, _ => .bad
  | f + 1, i, G => match G[m]? with
    | some (.lst ds) => match ds[i]? with
      | some d => match g d σ with
        | some σ2 => bindN (t σ2 G) fun k G1 => if k = true then bindN (e σ2 G1) fun y G2 => match G2[n]? with
            | some (.lst acc) => if acc.length < maxLine then lcR n m g t e σ f (i + 1) (G2.set n (.lst (acc ++ [y]))) else .bad
            | _ => .bad
          else lcR n m g t e σ f (i + 1) G1
        | none => .bad
      | none => .ok (.ref n) G
    | _ => .bad
def lcA (n : Nat) (g : DG) (t : DT) (e : DE) (σ : PEnv) : D → GS → RE D
  | .lst ds => lcL n g t e σ ds
  | .tup ds => lcL n g t e σ ds
  | .str cs => lcL n g t e σ (chars cs)
  | .ref m => lcR n m g t e σ fuel 0
  | _ => fun _ => .bad
def eLcA (it : DE) (g : CG) (t : DT) (e : DE) (vs : List Nat) : DE := fun σ G => bindE (it σ G) fun d G1 => lcA G1.length g.d t e (wipeD σ vs) d (G1 ++ [.lst []])
theorem lcA_le {it : DE} {g : CG} {t : DT} {e : DE} {vs : List Nat} (hv : ∀ i ∈ g.slots, i ∈ vs) (σ : L2.St) (H : Hp) (Q : VK) (h : tE X.K X.mg W (eLcA it g t e vs) σ H Q) : tLc (iA X.K (tE X.K X.mg W it)) (g.v X.K) (tT X.K X.mg WN t) (tE X.K X.mg WN e) vs σ H Q := by
  obtain ⟨ρ, σd, G, c, h⟩ := h
  unfold eLcA at h
  cases q : it σd G with
  | bad => rw [q] at h; exact h.elim
  | exc cc fs G1 =>
    refine .inl (iL_le _ _ _ (lc_le (W := W) hv σ H Q ⟨ρ, σd, G, c, ?_⟩))
    unfold eLcN iSeqL
    rw [q] at h ⊢
    exact h
  | ok d G1 =>
    rw [q] at h
    have h : EPD X.K X.mg (WA W σ) ρ H (lcA G1.length g.d t e (wipeD σd vs) d (G1 ++ [.lst []])) Q := h
    cases d with
    | lst ds =>
      refine .inl (iL_le _ _ _ (lc_le (W := W) hv σ H Q ⟨ρ, σd, G, c, ?_⟩))
      unfold eLcN iSeqL
      rw [q]
      exact h
    | tup ds =>
      refine .inr (.inl (iT_le _ _ _ (lc_le (W := W) hv σ H Q ⟨ρ, σd, G, c, ?_⟩)))
      unfold eLcN iSeqT
      rw [q]
      exact h
    | str cs =>
      refine .inr (.inr (iS_le _ _ _ (lc_le (W := W) hv σ H Q ⟨ρ, σd, G, c, ?_⟩)))
      unfold eLcN iSeqS
      rw [q]
      exact h
    | ref m =>
      refine .inl ⟨ρ, σd, G, c, ?_⟩
      rw [q]
      intro ρ1 H1 v e1 s1 r1
      obtain ⟨p, hp, ev⟩ := r1
      have h : EPD X.K X.mg (WA W σ) ρ1 H1 (lcR G1.length m g.d t e (wipeD σd vs) fuel 0 (G1 ++ [.lst []])) Q := EP'.deeper e1 h
      have look : ∀ {f i ρ2 H2 G2 σ3}, ρ2[m]? = some p → RS X.K X.mg ρ2 G2 H2 → EPD X.K X.mg (WA W σ) ρ2 H2 (lcR G1.length m g.d t e σ3 f i G2) Q → ∃ f' ds us, f = f' + 1 ∧ G2[m]? = some (.lst ds) ∧ SqL X.K H2 p us ∧ RDs X.K ρ2 H2 ds us := by
        intro f i ρ2 H2 G2 σ3 hp s h
        cases f with
        | zero => exact h.elim
        | succ f =>
          unfold lcR at h
          cases z : G2[m]? with
          | none => rw [z] at h; exact h.elim
          | some ob =>
            cases ob with
            | ins _ _ => rw [z] at h; exact h.elim
            | dcT _ _ => rw [z] at h; exact h.elim
            | dic _ _ => rw [z] at h; exact h.elim
            | lst ds =>
              obtain ⟨us, hu, ru⟩ := s.at_ m p _ hp z
              exact ⟨f, ds, us, rfl, rfl, .of hu, ru⟩
      have pre : ∃ us, SqL X.K H1 p us := by
        have hm : m < G1.length := by rw [← s1.len]; exact (List.getElem?_eq_some_iff.mp hp).1
        obtain ⟨f, ef⟩ := fuel_succ
        rw [ef] at h
        unfold lcR at h
        cases z : G1[m]? with
        | none => exact absurd hm (Nat.not_lt.mpr (List.getElem?_eq_none_iff.mp z))
        | some ob =>
          have z' : (G1 ++ [Ob.lst []])[m]? = some ob := by rw [List.getElem?_append_left hm]; exact z
          cases ob with
          | ins _ _ => rw [z'] at h; exact h.elim
          | dcT _ _ => rw [z'] at h; exact h.elim
          | dic _ _ => rw [z'] at h; exact h.elim
          | lst ds =>
            obtain ⟨us, hu, ru⟩ := s1.at_ m p _ hp z
            exact ⟨us, .of hu⟩
      refine ⟨p, ev, pre, fun D hD => ?_⟩
      obtain ⟨ep, sp⟩ := s1.push (o := .lst []) (ob := .lst []) hD fun ex => ⟨[], upd_same, rfl⟩
      have c1 := ((c.ext e1 s1).ext (.refl _ _) s1).wiped vs
      have hDn : (ρ1 ++ [D])[G1.length]? = some D := by rw [← s1.len, List.getElem?_append_right (Nat.le_refl _)]; simp
      refine ⟨fun i k H => ∃ ρ2 G2, Ext (ρ1 ++ [D]) (upd H1 D (.lst [])) ρ2 H ∧ RS X.K X.mg ρ2 G2 H ∧ EPD X.K X.mg (WA W σ) ρ2 H (lcR G1.length m g.d t e (wipeD σd vs) k i G2) Q,
        ⟨fuel, ρ1 ++ [D], G1 ++ [.lst []], .refl _ _, sp, EP'.deeper ep h⟩, ?_⟩
      rintro i k H2 ⟨ρ2, G2, e2, s2, h2⟩
      obtain ⟨f, ds, us, ef, hG, sq, rv⟩ := look ((ep.trans e2).get hp) s2 h2
      subst ef
      unfold lcR at h2
      rw [hG] at h2
      cases hd : ds[i]? with
      | none =>
        simp only [hd] at h2
        exact .inl ⟨⟨us, sq, by rw [← rv.length]; exact List.getElem?_eq_none_iff.mp hd⟩, h2 ρ2 H2 _ (.refl _ _) s2 ⟨D, e2.get hDn, rfl⟩⟩
      | some d =>
        simp only [hd] at h2
        obtain ⟨u, hu, rd⟩ := rv.get hd
        refine .inr ⟨⟨us, u, sq, hu⟩, fun H' => ∃ ρ2 G2, Ext (ρ1 ++ [D]) (upd H1 D (.lst [])) ρ2 H' ∧ RS X.K X.mg ρ2 G2 H' ∧ EPD X.K X.mg (WA W σ) ρ2 H' (lcR G1.length m g.d t e (wipeD σd vs) f (i + 1) G2) Q, fun H' z => ⟨f, Nat.lt_succ_self _, z⟩, fun x H' ⟨eh, y⟩ => ?_⟩
        subst eh
        have := y us sq
        rw [hu] at this
        cases this
        have c3 : Ct X.K X.mg ρ2 (wipeD σd vs) G2 (wipe σ vs) H' := c1.ext (ep.trans e2) s2
        cases q2 : g.d d (wipeD σd vs) with
        | none => simp only [q2] at h2; exact h2.elim
        | some σ2 =>
          simp only [q2] at h2
          refine cg_ok hv q2 c3 rd fun σ' c4 hw => ⟨by rw [hw]; exact wipe_wipe, ρ2, σ2, G2, c4, (EP'.bindN' h2).mono fun _ H5 _ _ b _ _ _ _ ⟨ρ5, G5, kk, e5, s5, d5, h5⟩ => ?_⟩
          subst d5
          cases kk with
          | false => exact ⟨ρ5, G5, e2.trans e5, s5, h5⟩
          | true =>
            refine ⟨ρ5, σ2, G5, c4.ext e5 s5, (EP'.bindN' h5).mono fun _ H6 _ _ y _ _ _ _ ⟨ρ6, G6, a6, e6, s6, d6, h6⟩ => ?_⟩
            have eall := (e2.trans e5).trans e6
            cases gq : G6[G1.length]? with
            | none => simp only [gq] at h6; exact h6.elim
            | some ob =>
              cases ob with
              | ins _ _ => simp only [gq] at h6; exact h6.elim
              | dcT _ _ => simp only [gq] at h6; exact h6.elim
              | dic _ _ => simp only [gq] at h6; exact h6.elim
              | lst acc =>
                simp only [gq] at h6
                have hD6 := eall.get hDn
                obtain ⟨vs6, hv6, rv6⟩ := s6.at_ _ D _ hD6 gq
                by_cases hl : acc.length < maxLine
                · rw [if_pos hl] at h6
                  refine ⟨vs6, hv6, by rw [← rv6.length, ← maxLine_eq]; exact hl, ?_⟩
                  obtain ⟨e7, s7⟩ := s6.write (o := .lst (vs6 ++ [y])) (ob := .lst (acc ++ [a6])) hD6 fun ex => ⟨_, upd_same, (rv6.ext ex).append (RDs.cons (d6.ext ex) RDs.nil)⟩
                  exact ⟨ρ6, _, eall.trans e7, s7, EP'.deeper e7 h6⟩
                · rw [if_neg hl] at h6; exact h6.elim
    | _ => exact h.elim
theorem le_lcA {elt tg iter : Expr} {ifs : List Expr} {scope : Scope} {own : List (Str × Nat)} {pos : Pos} {it : DE} {g : CG} {t : DT} {e : DE} (hc : X.calm = true) (hN : X.N.Nodup) (hi : PEd X W iter it) (ok : BlkOk X.N X.env.scope scope own) (hv : ∀ i ∈ g.slots, i ∈ own.map (·.2))
    (hg : ∀ (s : Shared) (H : Hp) (C : Addr) (cl : List (Str × Addr)) (fp : List Addr), PG (X.blk s H scope (compEnvC scope cl C X.env) fp) tg (g.v X.K)) (ht : ∀ (s : Shared) (H : Hp) (C : Addr) (cl : List (Str × Addr)) (fp : List Addr), PTs (X.blk s H scope (compEnvC scope cl C X.env) fp) ifs (tT X.K X.mg WN t))
    (he : ∀ (s : Shared) (H : Hp) (C : Addr) (cl : List (Str × Addr)) (fp : List Addr), PEd (X.blk s H scope (compEnvC scope cl C X.env) fp) WN elt e) (hs : ∀ x, foldedSetIterable iter X.env x = pure x := by intro _; rfl) :
    PEd X W (.ListComp elt [⟨tg, iter, ifs, 0⟩] scope pos) (eLcA it g t e (own.map (·.2))) :=
  (pe_lc hc hN (pi_any hi) ok hg ht he hs).le fun σ H Q h => lcA_le hv σ H Q h
theorem le_setLcA {i : Nat} {y : Str} {py : Pos} {elt tg iter : Expr} {ifs : List Expr} {scope : Scope} {own : List (Str × Nat)} {pos spos : Pos} {it : DE} {g : CG} {t : DT} {e : DE} (hc : X.calm = true) (hN : X.N.Nodup) (hi : PEd X W iter it) (ok : BlkOk X.N X.env.scope scope own) (hv : ∀ i ∈ g.slots, i ∈ own.map (·.2))
    (hsw : swapsWith (.ListComp elt [⟨tg, iter, ifs, 0⟩] scope pos) (some (.Name y py)) spos.line X.env = pure true)
    (hg : ∀ (s : Shared) (H : Hp) (C : Addr) (cl : List (Str × Addr)) (fp : List Addr), PG (X.blk s H scope (compEnvC scope cl C X.env) fp) tg (g.v X.K)) (ht : ∀ (s : Shared) (H : Hp) (C : Addr) (cl : List (Str × Addr)) (fp : List Addr), PTs (X.blk s H scope (compEnvC scope cl C X.env) fp) ifs (tT X.K X.mg WN t))
    (he : ∀ (s : Shared) (H : Hp) (C : Addr) (cl : List (Str × Addr)) (fp : List Addr), PEd (X.blk s H scope (compEnvC scope cl C X.env) fp) WN elt e) (hs : ∀ x, foldedSetIterable iter X.env x = pure x := by intro _; rfl)
    (hy : X.N[i]? = some y := by rfl) (hyl : X.env.scope.names.lookup y = some .local := by rfl) :
    PSd X W (.Assign [.Name y py] (.ListComp elt [⟨tg, iter, ifs, 0⟩] scope pos) spos) (sAsg i (eLcA it g t e (own.map (·.2)))) :=
  (ps_setLc hc hN hy hyl hsw (pi_any hi) ok hg ht he hs).le fun Dn σ H h => lcA_le hv σ H _ (asg_le h)
theorem le_setLcAS {i : Nat} {y : Str} {py : Pos} {elt tg iter : Expr} {ifs : List Expr} {scope : Scope} {own : List (Str × Nat)} {pos spos : Pos} {it : DE} {g : CG} {t : DT} {e : DE} (hc : X.calm = true) (hN : X.N.Nodup) (hi : PEd X W iter it) (ok : BlkOk X.N X.env.scope scope own) (hv : ∀ i ∈ g.slots, i ∈ own.map (·.2))
    (hsw : swapsWith (.ListComp elt [⟨tg, iter, ifs, 0⟩] scope pos) (some (.Name y py)) spos.line X.env = pure true)
    (hg : ∀ (s : Shared) (H : Hp) (C : Addr) (cl : List (Str × Addr)) (fp : List Addr), PG (X.blk s H scope (compEnvC scope cl C X.env) fp) tg (g.v X.K)) (ht : ∀ (s : Shared) (H : Hp) (C : Addr) (cl : List (Str × Addr)) (fp : List Addr), PTs (X.blk s H scope (compEnvC scope cl C X.env) fp) ifs (tT X.K X.mg WN t))
    (he : ∀ (s : Shared) (H : Hp) (C : Addr) (cl : List (Str × Addr)) (fp : List Addr), PEd (X.blk s H scope (compEnvC scope cl C X.env) fp) WN elt e) (hs : ∀ x, foldedSetIterable iter X.env x = pure x := by intro _; rfl)
    (hy : X.N[i]? = some y := by rfl) (hyl : X.env.scope.names.lookup y = some .local := by rfl) :
    PSd X W (.Assign [.Name y py] (.ListComp elt [⟨tg, iter, ifs, 0⟩] scope pos) spos) (sAsg i (eSeal (eLcA it g t e (own.map (·.2))))) :=
  (ps_setLc hc hN hy hyl hsw (pi_any hi) ok hg ht he hs).le fun Dn σ H h => lcA_le hv σ H _ (seal_le σ H _ (asg_le h))
end
end Dl
namespace Dl
open PySem L2
section
variable {X : Cx} {W : WX}
/-! ## truth of anything -/
def truV (G : GS) : D → Option Bool
  | .non => some false
  | .bl b => some b
  | .int i => some (i != 0)
  | .str cs => if cs.length ≤ maxLine then some (!cs.isEmpty) else none
  | .tup ds => some (!ds.isEmpty)
  | .lst ds => some (!ds.isEmpty)
  | .ref n => match G[n]? with | some (.lst ds) => some (!ds.isEmpty) | _ => none
  | _ => none
def truthA (d : D) (G : GS) : RE Bool := match truV G d with | some b => .ok b G | none => .bad
def dTA (e : DE) : DT := fun σ G => bindE (e σ G) truthA
theorem isE {K : PySem.W.Frag} {ρ : List Addr} {H : Hp} {ds : List D} {vs : List V} (r : RDs K ρ H ds vs) : (!ds.isEmpty) = !vs.isEmpty := by
  have := r.length
  cases ds <;> cases vs <;> simp_all
theorem truV_ok {ρ : List Addr} {G : GS} {H : Hp} {d : D} {v : V} {b : Bool} (s : RS X.K X.mg ρ G H) (h : truV G d = some b) (r : RD X.K ρ H d v) : TruV X.K v H b := by
  cases d with
  | non => cases (show _ = _ from r); simp only [truV, Option.some.injEq] at h; exact h.symm
  | bl c => cases (show _ = _ from r); simp only [truV, Option.some.injEq] at h; exact h.symm
  | int i => cases (show _ = _ from r); simp only [truV, Option.some.injEq] at h; exact h.symm
  | str cs =>
    cases (show _ = _ from r)
    simp only [truV] at h
    by_cases hl : cs.length ≤ maxLine
    · rw [if_pos hl] at h
      simp only [Option.some.injEq] at h
      refine ⟨by show (S cs).length ≤ sizeLine; rw [← maxLine_eq]; simpa [S, Str.length] using hl, ?_⟩
      rw [← h]
      cases cs with
      | nil => rfl
      | cons c cs =>
        have : ((S (c :: cs)).length : Int) ≠ 0 := by simp [S, Str.length]; omega
        simp [bne_iff_ne.mpr this]
    · rw [if_neg hl] at h; cases h
  | tup ds =>
    obtain ⟨a, vs, rfl, t, rs⟩ := r
    simp only [truV, Option.some.injEq] at h
    exact .inr (.inl ⟨vs, t.sq, by rw [← h]; exact isE rs⟩)
  | lst ds =>
    obtain ⟨a, vs, rfl, t, rs⟩ := r
    simp only [truV, Option.some.injEq] at h
    exact .inl ⟨vs, .of t.1, by rw [← h]; exact isE rs⟩
  | ref n =>
    simp only [truV] at h
    cases g : G[n]? with
    | none => simp [g] at h
    | some ob =>
      cases ob with
      | ins _ _ => simp [g] at h
      | dcT _ _ => simp [g] at h
      | dic _ _ => simp [g] at h
      | lst ds =>
        simp only [g, Option.some.injEq] at h
        obtain ⟨p, vs, rfl, h1, h2, rs⟩ := ref_at s g r
        exact .inl ⟨vs, .of h2, by rw [← h]; exact isE rs⟩
  | _ => simp [truV] at h
theorem le_tru {e : Expr} {d : DE} (h : PEd X W e d) (he : ∀ whole, isTrue e X.env whole = (do let v ← whole; standAt e.pos; holding [v] (truthy v)) := by intro _; rfl) : PTd X W e (dTA d) := by
  refine (pt_truth h he).le fun σ H Q ⟨ρ, σd, G, c, q⟩ => ?_
  refine ⟨ρ, σd, G, c, (EP'.bind q).mono fun ρ1 H1 G1 a v e1 s1 d1 _ ⟨ρ2, G2, a2, e2, s2, d2, _, h2⟩ => ?_⟩
  unfold truthA at h2
  cases z : truV G2 a2 with
  | none => rw [z] at h2; exact h2.elim
  | some b => rw [z] at h2; exact ⟨b, truV_ok s2 z d2, h2 ρ2 H1 b (.refl _ _) s2 rfl⟩
/-! ## a < b <= c -/
def eChain (f f' : D → D → GS → RE D) (a b c : DE) : DE := fun σ G => bindE (a σ G) fun x G1 => bindE (b σ G1) fun y G2 => bindE (f x y G2) fun z G3 => match z with
  | .bl k => if k = true then bindE (c σ G3) fun w G4 => f' y w G4 else .ok (.bl false) G3
  | _ => .bad
theorem srv_bind {r : R2} {f : D → D → GS → RE D} (hf : Srv2 X r f) {W' : XK} {ρ : List Addr} {G : GS} {H : Hp} {x y : V} {dx dy : D} {Q : VK} {k : D → GS → RE D} (s : RS X.K X.mg ρ G H) (rx : RD X.K ρ H dx x) (ry : RD X.K ρ H dy y) (h : EPD X.K X.mg W' ρ H (bindE (f dx dy G) k) Q) {Q' : VK}
    (hk : ∀ ρ1 G1 H1 z dz, Ext ρ H ρ1 H1 → RS X.K X.mg ρ1 G1 H1 → RD X.K ρ1 H1 dz z → EPD X.K X.mg W' ρ1 H1 (k dz G1) Q → Q' z H1) : r x y H Q' :=
  hf W' ρ G H x y dx dy Q' s rx ry ((EP'.bind h).mono fun _ H1 _ _ v _ _ _ _ ⟨ρ1, G1, a, e1, s1, d1, _, h1⟩ => hk ρ1 G1 H1 v a e1 s1 d1 h1)
theorem chain_le {r r' : R2} {f f' : D → D → GS → RE D} {a b c : DE} (hf : Srv2 X r f) (hf' : Srv2 X r' f') (σ : L2.St) (H : Hp) (Q : VK) (h : tE X.K X.mg W (eChain f f' a b c) σ H Q) : tChain r r' (tE X.K X.mg W a) (tE X.K X.mg W b) (tE X.K X.mg W c) σ H Q := by
  obtain ⟨ρ, σd, G, ct, h⟩ := h
  refine ⟨ρ, σd, G, ct, (EP'.bind h).mono fun _ H1 _ _ x _ _ _ _ ⟨ρ1, G1, d1, e1, s1, r1, _, h1⟩ => ?_⟩
  refine ⟨ρ1, σd, G1, ct.ext e1 s1, (EP'.bind h1).mono fun _ H2 _ _ y _ _ _ _ ⟨ρ2, G2, d2, e2, s2, r2, _, h2⟩ => ?_⟩
  refine srv_bind hf s2 (r1.ext e2) r2 h2 fun ρ3 G3 H3 z dz e3 s3 r3 h3 => ?_
  cases dz with
  | bl k =>
    refine ⟨k, r3, ?_⟩
    cases k with
    | true =>
      simp only [if_true] at h3 ⊢
      refine ⟨ρ3, σd, G3, (ct.ext e1 s1).ext (e2.trans e3) s3, (EP'.bind h3).mono fun _ H4 _ _ w _ _ _ _ ⟨ρ4, G4, d4, e4, s4, r4, _, h4⟩ => ?_⟩
      exact hf' _ ρ4 G4 H4 y w d2 d4 Q s4 ((r2.ext e3).ext e4) r4 h4
    | false => exact h3 ρ3 H3 _ (.refl _ _) s3 rfl
  | _ => exact h3.elim
theorem le_chain {op op' : CmpOp} {r r' : R2} {f f' : D → D → GS → RE D} {a b c : Expr} {da db dc : DE} {pos : Pos} (ho : OpR X (compareOp op) r) (hf : Srv2 X r f) (ho' : OpR X (compareOp op') r') (hf' : Srv2 X r' f') (ha : PEd X W a da) (hb : PEd X W b db) (hc : PEd X W c dc)
    (hm : lastMarks [op, op'] [b, c] = false := by with_unfolding_all rfl) : PEd X W (.Compare a [op, op'] [b, c] pos) (eChain f f' da db dc) := (pe_chain ho ho' ha hb hc hm).le fun σ H Q h => chain_le hf hf' σ H Q h
theorem le_tchain {op op' : CmpOp} {r r' : R2} {f f' : D → D → GS → RE D} {a b c : Expr} {da db dc : DE} {pos : Pos} (ho : OpR X (compareOp op) r) (hf : Srv2 X r f) (ho' : OpR X (compareOp op') r') (hf' : Srv2 X r' f') (ha : PEd X W a da) (hb : PEd X W b db) (hc : PEd X W c dc)
    (hm : lastMarks [op, op'] [b, c] = false := by with_unfolding_all rfl) : PTd X W (.Compare a [op, op'] [b, c] pos) (dT (eChain f f' da db dc)) := by
  refine (pt_chain ho ho' ha hb hc hm).le fun σ H Q h => chain_le hf hf' σ H _ ?_
  obtain ⟨ρ, σd, G, c, q⟩ := h
  refine ⟨ρ, σd, G, c, (EP'.bind q).mono fun ρ1 H1 G1 a v e1 s1 d1 _ ⟨ρ2, G2, a2, e2, s2, d2, _, h2⟩ => ?_⟩
  cases a2 with
  | bl b => exact ⟨b, d2, h2 ρ2 H1 b (.refl _ _) s2 rfl⟩
  | _ => exact h2.elim
/-! ## sum, max, min of a list of whole numbers -/
def intsD : List D → Option (List Int)
  | [] => some []
  | .int i :: r => (intsD r).map (i :: ·)
  | _ => none
theorem intsD_is {K : PySem.W.Frag} {ρ : List Addr} {H : Hp} : ∀ {ds : List D} {ns : List Int} {vs : List V}, intsD ds = some ns → RDs K ρ H ds vs → vs = ns.map V.int
  | [], ns, vs, h, r => by cases (show _ = _ from r); simp only [intsD, Option.some.injEq] at h; subst h; rfl
  | d :: ds, ns, vs, h, r => by
    obtain ⟨v, r', rfl, r1, r2⟩ := r
    cases d with
    | int i =>
      simp only [intsD, Option.map_eq_some_iff] at h
      obtain ⟨ns', h', rfl⟩ := h
      cases (show _ = _ from r1)
      rw [intsD_is h' r2]; rfl
    | _ => simp [intsD] at h
@[simp] theorem intsD_ints (ns : List Int) : intsD (ns.map D.int) = some ns := by
  induction ns with
  | nil => rfl
  | cons n ns ih => simp [intsD, ih]
def lstInts (G : GS) (d : D) : Option (List Int) := (lstOf G d).bind intsD
theorem lstInts_at {ρ : List Addr} {G : GS} {H : Hp} {d : D} {v : V} {ns : List Int} (s : RS X.K X.mg ρ G H) (h : lstInts G d = some ns) (r : RD X.K ρ H d v) : ∃ a, v = .ref a ∧ SqL X.K H a (ns.map V.int) := by
  unfold lstInts at h
  rw [Option.bind_eq_some_iff] at h
  obtain ⟨ds, h1, h2⟩ := h
  obtain ⟨a, vs, rfl, hv, rv⟩ := lstOf_at s h1 r
  refine ⟨a, rfl, ?_⟩
  rw [← intsD_is h2 rv]
  exact .of hv
def fSum : List D → GS → RE D := fun xs G => match xs with
  | [d] => match lstInts G d with | some ns => .ok (.int ns.sum) G | none => .bad
  | _ => .bad
theorem sv_sum : SrvC X (rSum X.K) fSum := by
  intro W ρ G H xs dxs Q s r q
  unfold fSum at q
  split at q
  · obtain ⟨v, rfl, rv⟩ := rds1 r
    split at q
    · rename_i ns h
      obtain ⟨a, rfl, sq⟩ := lstInts_at s h rv
      exact ⟨a, ns, rfl, sq, now q s rfl⟩
    · exact q.elim
  · exact q.elim
theorem foldl_max_mem : ∀ (ns : List Int) (n : Int), ns.foldl max n ∈ n :: ns
  | [], n => by simp
  | m :: ns, n => by
    have := foldl_max_mem ns (max n m)
    rw [List.foldl_cons]
    rcases List.mem_cons.mp this with e | e
    · rw [e]
      rcases (by omega : max n m = n ∨ max n m = m) with z | z <;> rw [z] <;> simp
    · exact List.mem_cons_of_mem _ (List.mem_cons_of_mem _ e)
theorem foldl_max_le : ∀ (ns : List Int) (n : Int), ∀ y ∈ n :: ns, y ≤ ns.foldl max n
  | [], n, y, h => by simp at h; subst h; exact Int.le_refl _
  | m :: ns, n, y, h => by
    rw [List.foldl_cons]
    have k := foldl_max_le ns (max n m)
    have k0 := k (max n m) List.mem_cons_self
    rcases List.mem_cons.mp h with e | h
    · subst e; omega
    · rcases List.mem_cons.mp h with e | h
      · subst e; omega
      · exact k y (List.mem_cons_of_mem _ h)
theorem foldl_min_mem : ∀ (ns : List Int) (n : Int), ns.foldl min n ∈ n :: ns
  | [], n => by simp
  | m :: ns, n => by
    have := foldl_min_mem ns (min n m)
    rw [List.foldl_cons]
    rcases List.mem_cons.mp this with e | e
    · rw [e]
      rcases (by omega : min n m = n ∨ min n m = m) with z | z <;> rw [z] <;> simp
    · exact List.mem_cons_of_mem _ (List.mem_cons_of_mem _ e)
theorem foldl_min_le : ∀ (ns : List Int) (n : Int), ∀ y ∈ n :: ns, ns.foldl min n ≤ y
  | [], n, y, h => by simp at h; subst h; exact Int.le_refl _
  | m :: ns, n, y, h => by
    rw [List.foldl_cons]
    have k := foldl_min_le ns (min n m)
    have k0 := k (min n m) List.mem_cons_self
    rcases List.mem_cons.mp h with e | h
    · subst e; omega
    · rcases List.mem_cons.mp h with e | h
      · subst e; omega
      · exact k y (List.mem_cons_of_mem _ h)
def fMaxL : List D → GS → RE D := fun xs G => match xs with
  | [d] => match lstInts G d with | some (n :: ns) => .ok (.int (ns.foldl max n)) G | _ => .bad
  | _ => .bad
def fMinL : List D → GS → RE D := fun xs G => match xs with
  | [d] => match lstInts G d with | some (n :: ns) => .ok (.int (ns.foldl min n)) G | _ => .bad
  | _ => .bad
theorem sv_maxL : SrvC X (rMax X.K) fMaxL := by
  intro W ρ G H xs dxs Q s r q
  unfold fMaxL at q
  split at q
  · obtain ⟨v, rfl, rv⟩ := rds1 r
    split at q
    · rename_i n ns h
      obtain ⟨a, rfl, sq⟩ := lstInts_at s h rv
      refine ⟨a, n :: ns, rfl, sq, by simp, fun m hm hy => ?_⟩
      have e : m = ns.foldl max n := by
        have h1 := hy _ (foldl_max_mem ns n)
        have h2 := foldl_max_le ns n m hm
        omega
      subst e
      exact now q s rfl
    · exact q.elim
  · exact q.elim
theorem sv_minL : SrvC X (rMin X.K) fMinL := by
  intro W ρ G H xs dxs Q s r q
  unfold fMinL at q
  split at q
  · obtain ⟨v, rfl, rv⟩ := rds1 r
    split at q
    · rename_i n ns h
      obtain ⟨a, rfl, sq⟩ := lstInts_at s h rv
      refine ⟨a, n :: ns, rfl, sq, by simp, fun m hm hy => ?_⟩
      have e : m = ns.foldl min n := by
        have h1 := hy _ (foldl_min_mem ns n)
        have h2 := foldl_min_le ns n m hm
        omega
      subst e
      exact now q s rfl
    · exact q.elim
  · exact q.elim
/-! ## texts: join, split -/
def strsD : List D → Option (List (List Nat))
  | [] => some []
  | .str c :: r => (strsD r).map (c :: ·)
  | _ => none
theorem strsD_is {K : PySem.W.Frag} {ρ : List Addr} {H : Hp} : ∀ {ds : List D} {ns : List (List Nat)} {vs : List V}, strsD ds = some ns → RDs K ρ H ds vs → vs = (ns.map S).map V.str
  | [], ns, vs, h, r => by cases (show _ = _ from r); simp only [strsD, Option.some.injEq] at h; subst h; rfl
  | d :: ds, ns, vs, h, r => by
    obtain ⟨v, r', rfl, r1, r2⟩ := r
    cases d with
    | str i =>
      simp only [strsD, Option.map_eq_some_iff] at h
      obtain ⟨ns', h', rfl⟩ := h
      cases (show _ = _ from r1)
      rw [strsD_is h' r2]; rfl
    | _ => simp [strsD] at h
@[simp] theorem strsD_strs (ns : List (List Nat)) : strsD (ns.map D.str) = some ns := by
  induction ns with
  | nil => rfl
  | cons n ns ih => simp [strsD, ih]
theorem strs_RDs {K : PySem.W.Frag} {ρ : List Addr} {H : Hp} : ∀ (ns : List (List Nat)), RDs K ρ H (ns.map D.str) ((ns.map S).map V.str)
  | [] => rfl
  | n :: ns => RDs.cons rfl (strs_RDs ns)
def joinL : List Nat → List (List Nat) → List Nat := TL.joinL
def mJoin : D → List D → GS → RE D := fun x xs G => match x, xs with
  | .str a, [d] => match (seqOf G d).bind strsD with
    | some ys => if (ys.map (·.length)).sum + ys.length * a.length ≤ 16777216 then .ok (.str (joinL a ys)) G else .bad
    | none => .bad
  | _, _ => .bad
theorem sm_join : SrvM X (fun x xs H Q => ∃ a p, ∃ ys : List Str, x = .str a ∧ xs = [.ref p] ∧ (SqL X.K H p (ys.map V.str) ∨ SqT X.K H p (ys.map V.str)) ∧
    (ys.map (·.length)).sum + ys.length * a.length ≤ 16777216 ∧ Q (.str (Txt.join a ys)) H) mJoin := by
  intro W ρ G H x xs dx dxs Q s r rs q
  unfold mJoin at q
  split at q
  · rename_i a d
    obtain ⟨v, rfl, rv⟩ := rds1 rs
    cases (show _ = _ from r)
    split at q
    · rename_i ys h
      rw [Option.bind_eq_some_iff] at h
      obtain ⟨ds, h1, h2⟩ := h
      obtain ⟨p, vs, rfl, sq, rds⟩ := seqOf_at s h1 rv
      have ev := strsD_is h2 rds
      subst ev
      split at q
      · rename_i hl
        refine ⟨S a, p, ys.map S, rfl, rfl, sq, ?_, ?_⟩
        · have e1 : ((ys.map S).map (·.length)) = ys.map (·.length) := SX.lens ys
          rw [e1, List.length_map, show (S a).length = a.length from SX.S_len a]
          exact hl
        · rw [show Txt.join (S a) (ys.map S) = S (TL.joinL a ys) from SX.join_S a ys]
          exact now q s rfl
      · exact q.elim
    · exact q.elim
  · exact q.elim
def splL (a b : List Nat) : List (List Nat) := TL.spl b 0 [] a
def mSplit : D → List D → GS → RE D := fun x xs G => match x, xs with
  | .str a, [.str b] => if (!b.isEmpty && b.all (· < 256) && decide (a.length + 2 ≤ maxLine)) = true then .ok (.lst ((splL a b).map D.str)) G else .bad
  | _, _ => .bad
theorem sm_split : SrvM X (fun x xs H Q => ∃ a b, x = .str a ∧ xs = [.str b] ∧ (b.length == 0) = false ∧ a.length + 2 ≤ sizeLine ∧ rNewStrs (Txt.split a b) H Q) mSplit := by
  intro W ρ G H x xs dx dxs Q s r rs q
  unfold mSplit at q
  split at q
  · rename_i a b
    obtain ⟨v, rfl, rv⟩ := rds1 rs
    cases (show _ = _ from r)
    cases (show _ = _ from rv)
    split at q
    · rename_i h
      simp only [Bool.and_eq_true, decide_eq_true_eq] at h
      obtain ⟨⟨h1, h2⟩, h3⟩ := h
      have hb : b ≠ [] := by intro e; subst e; simp at h1
      refine ⟨S a, S b, rfl, rfl, ?_, ?_, fun p hp => ?_⟩
      · rw [show (S b).length = b.length from SX.S_len b]
        cases b with
        | nil => exact absurd rfl hb
        | cons _ _ => rfl
      · rw [show (S a).length = a.length from SX.S_len a, ← maxLine_eq]; exact h3
      · rw [show Txt.split (S a) (S b) = (TL.spl b 0 [] a).map S from SX.split_S hb h2]
        obtain ⟨e, s'⟩ := s.lay (.lst (((TL.spl b 0 [] a).map S).map V.str)) hp
        exact q ρ _ _ e s' ⟨p, _, rfl, ⟨upd_same, s.fresh hp⟩, strs_RDs _⟩
    · exact q.elim
  · exact q.elim
/-! ## list.index, pop, extend, insert, reverse -/
def findV (u : V) : List V → Option Nat
  | [] => none
  | v :: vs => if eqV v u = true then some 0 else (findV u vs).map (· + 1)
theorem findV_at {u : V} : ∀ {vs : List V} {j : Nat}, findV u vs = some j → ∃ z, vs[j]? = some z ∧ eqV z u = true ∧ ∀ m z', m < j → vs[m]? = some z' → eqV z' u = false
  | [], j, h => by simp [findV] at h
  | v :: vs, j, h => by
    unfold findV at h
    by_cases e : eqV v u = true
    · rw [if_pos e, Option.some.injEq] at h
      subst h
      exact ⟨v, rfl, e, fun m z' hm => absurd hm (Nat.not_lt_zero _)⟩
    · rw [if_neg e, Option.map_eq_some_iff] at h
      obtain ⟨j', h', rfl⟩ := h
      obtain ⟨z, h1, h2, h3⟩ := findV_at h'
      refine ⟨z, by simpa using h1, h2, fun m z' hm hz => ?_⟩
      cases m with
      | zero => simp at hz; subst hz; simpa using e
      | succ m => exact h3 m z' (by omega) (by simpa using hz)
def mIndex : D → List D → GS → RE D := fun x xs G => match xs with
  | [y] => match (lstOf G x).bind flats, flat y with
    | some vs, some u => match findV u vs with | some j => .ok (.int (j : Nat)) G | none => .bad
    | _, _ => .bad
  | _ => .bad
theorem sm_index : SrvM X (rIndex X.K) mIndex := by
  intro W ρ G H x xs dx dxs Q s r rs q
  unfold mIndex at q
  split at q
  · rename_i y
    obtain ⟨v, rfl, rv⟩ := rds1 rs
    split at q
    · rename_i vs u h h2
      rw [Option.bind_eq_some_iff] at h
      obtain ⟨ds, h1, h3⟩ := h
      obtain ⟨a, us, rfl, hv, rds⟩ := lstOf_at s h1 r
      obtain ⟨ev, fl⟩ := flats_is h3 rds
      subst ev
      have eu := flat_is h2 rv
      subst eu
      split at q
      · rename_i j hj
        obtain ⟨z, z1, z2, z3⟩ := findV_at hj
        exact ⟨a, us, v, j, z, rfl, rfl, .of hv, flat_flatV h2, fl, z1, z2, z3, now q s rfl⟩
      · exact q.elim
    · exact q.elim
  · exact q.elim
def mPop : D → List D → GS → RE D := fun x xs G => match x, xs with
  | .ref n, [] => match G[n]? with
    | some (.lst ds) => match ds[ds.length - 1]? with
      | some d => .ok d (G.set n (.lst ds.dropLast))
      | none => .bad
    | _ => .bad
  | _, _ => .bad
theorem sm_pop : SrvM X rPop mPop := by
  intro W ρ G H x xs dx dxs Q s r rs q
  unfold mPop at q
  split at q
  · rename_i n
    cases (show _ = _ from rs)
    split at q
    · rename_i ds g
      obtain ⟨p, vs, rfl, hp, hv, rds⟩ := ref_at s g r
      split at q
      · rename_i d hd
        obtain ⟨v, hv2, rd⟩ := rds.get hd
        refine ⟨p, vs, v, rfl, rfl, hv, by rw [← rds.length]; exact hv2, ?_⟩
        obtain ⟨e, s'⟩ := s.write (o := .lst vs.dropLast) (ob := .lst ds.dropLast) hp fun e => ⟨_, upd_same, (rds.ext e).dropLast⟩
        exact q _ _ _ e s' (rd.ext e)
      · exact q.elim
    · exact q.elim
  · exact q.elim
def mExtend : D → List D → GS → RE D := fun x xs G => match x, xs with
  | .ref n, [y] => match G[n]?, lstOf G y with
    | some (.lst ds), some es => if ds.length + es.length ≤ maxLine then .ok .non (G.set n (.lst (ds ++ es))) else .bad
    | _, _ => .bad
  | _, _ => .bad
theorem sm_extend : SrvM X rExtend mExtend := by
  intro W ρ G H x xs dx dxs Q s r rs q
  unfold mExtend at q
  split at q
  · rename_i n y
    obtain ⟨v, rfl, rv⟩ := rds1 rs
    split at q
    · rename_i ds es g hy
      obtain ⟨p, vs, rfl, hp, hv, rds⟩ := ref_at s g r
      obtain ⟨b, us, rfl, hu, res⟩ := lstOf_at s hy rv
      split at q
      · rename_i hl
        refine ⟨p, b, vs, us, rfl, rfl, hv, hu, by rw [← rds.length, ← res.length, ← maxLine_eq]; exact hl, ?_⟩
        obtain ⟨e, s'⟩ := s.write (o := .lst (vs ++ us)) (ob := .lst (ds ++ es)) hp fun e => ⟨_, upd_same, (rds.ext e).append (res.ext e)⟩
        exact q _ _ _ e s' rfl
      · exact q.elim
    · exact q.elim
  · exact q.elim
def mReverse : D → List D → GS → RE D := fun x xs G => match x, xs with
  | .ref n, [] => match G[n]? with
    | some (.lst ds) => .ok .non (G.set n (.lst ds.reverse))
    | _ => .bad
  | _, _ => .bad
theorem sm_reverse : SrvM X rReverse mReverse := by
  intro W ρ G H x xs dx dxs Q s r rs q
  unfold mReverse at q
  split at q
  · rename_i n
    cases (show _ = _ from rs)
    split at q
    · rename_i ds g
      obtain ⟨p, vs, rfl, hp, hv, rds⟩ := ref_at s g r
      refine ⟨p, vs, rfl, rfl, hv, ?_⟩
      obtain ⟨e, s'⟩ := s.write (o := .lst vs.reverse) (ob := .lst ds.reverse) hp fun e => ⟨_, upd_same, (rds.ext e).reverse⟩
      exact q _ _ _ e s' rfl
    · exact q.elim
  · exact q.elim
end
end Dl
namespace Dl
open PySem L2
/-! ## objects: fields, methods, making -/
def putD (f : Str) (d : D) : List (Str × D) → List (Str × D)
  | [] => [(f, d)]
  | (g, x) :: r => if g = f then (g, d) :: r else (g, x) :: putD f d r
section
variable {K : PySem.W.Frag} {ρ : List Addr} {H : Hp}
theorem look_kv {f : Str} : ∀ {fs : List (Str × D)} {us : List (Str × V)} {d : D}, us.map (·.1) = fs.map (·.1) → RDs K ρ H (fs.map (·.2)) (us.map (·.2)) → fs.lookup f = some d → ∃ v, us.lookup f = some v ∧ RD K ρ H d v
  | [], _, _, _, _, h => by simp at h
  | (g, x) :: fs, [], _, e, _, _ => by simp at e
  | (g, x) :: fs, (g', u) :: us, d, e, r, h => by
    simp only [List.map_cons, List.cons.injEq] at e
    obtain ⟨e1, e2⟩ := e
    subst e1
    obtain ⟨v, r', ev, r1, r2⟩ := r
    simp only [List.map_cons, List.cons.injEq] at ev
    obtain ⟨z1, z2⟩ := ev
    rw [List.lookup_cons] at h ⊢
    cases hb : f == g' with
    | true => simp only [hb, Option.some.injEq] at h ⊢; subst h; exact ⟨u, rfl, by rw [z1]; exact r1⟩
    | false => simp only [hb] at h ⊢; exact look_kv e2 (by rw [z2]; exact r2) h
theorem look_none {f : Str} : ∀ {fs : List (Str × D)} {us : List (Str × V)}, us.map (·.1) = fs.map (·.1) → fs.lookup f = none → us.lookup f = none
  | [], [], _, _ => rfl
  | [], _ :: _, e, _ => by simp at e
  | (g, x) :: fs, [], e, _ => by simp at e
  | (g, x) :: fs, (g', u) :: us, e, h => by
    simp only [List.map_cons, List.cons.injEq] at e
    obtain ⟨e1, e2⟩ := e
    subst e1
    rw [List.lookup_cons] at h ⊢
    cases hb : f == g' with
    | true => simp [hb] at h
    | false => simp only [hb] at h ⊢; exact look_none e2 h
theorem put_kv {f : Str} {d : D} {v : V} (rd : RD K ρ H d v) : ∀ {fs : List (Str × D)} {us : List (Str × V)}, us.map (·.1) = fs.map (·.1) → RDs K ρ H (fs.map (·.2)) (us.map (·.2)) →
    (putF f v us).map (·.1) = (putD f d fs).map (·.1) ∧ RDs K ρ H ((putD f d fs).map (·.2)) ((putF f v us).map (·.2))
  | [], [], _, _ => ⟨rfl, RDs.cons rd RDs.nil⟩
  | [], _ :: _, e, _ => by simp at e
  | (g, x) :: fs, [], e, _ => by simp at e
  | (g, x) :: fs, (g', u) :: us, e, r => by
    simp only [List.map_cons, List.cons.injEq] at e
    obtain ⟨e1, e2⟩ := e
    subst e1
    obtain ⟨v', r', ev, r1, r2⟩ := r
    simp only [List.map_cons, List.cons.injEq] at ev
    obtain ⟨z1, z2⟩ := ev
    subst z1
    subst z2
    unfold putF putD
    by_cases hg : g' = f
    · rw [if_pos hg, if_pos hg]
      exact ⟨by simp [e2], RDs.cons rd r2⟩
    · rw [if_neg hg, if_neg hg]
      obtain ⟨k1, k2⟩ := put_kv rd e2 r2
      exact ⟨by simp [k1], RDs.cons r1 k2⟩
end
def NA (K : PySem.W.Frag) (mg : MG) (al : List Str) (f : Str) : Prop := ∀ c ∈ al, ∃ C, mg c = some (.ref C) ∧ Cls K C ∧ NoAttr K C f
def insOf (al : List Str) (G : GS) : D → Option (Nat × Str × List (Str × D))
  | .ref n => match G[n]? with
    | some (.ins c fs) => if al.contains c = true then some (n, c, fs) else none
    | _ => none
  | _ => none
section
variable {X : Cx} {W : WX}
theorem insOf_at {al : List Str} {f : Str} (na : NA X.K X.mg al f) {ρ : List Addr} {G : GS} {H : Hp} {d : D} {v : V} {n : Nat} {c : Str} {fs : List (Str × D)} (s : RS X.K X.mg ρ G H) (h : insOf al G d = some (n, c, fs)) (r : RD X.K ρ H d v) :
    ∃ a C dx us, v = .ref a ∧ ρ[n]? = some a ∧ c ∈ al ∧ X.mg c = some (.ref C) ∧ H a = some (.ins C dx us) ∧ Cls X.K C ∧ NoAttr X.K C f ∧ us.map (·.1) = fs.map (·.1) ∧ RDs X.K ρ H (fs.map (·.2)) (us.map (·.2)) := by
  cases d with
  | ref m =>
    simp only [insOf] at h
    split at h
    · rename_i c' fs' g
      split at h
      · rename_i hc
        simp only [Option.some.injEq, Prod.mk.injEq] at h
        obtain ⟨rfl, rfl, rfl⟩ := h
        obtain ⟨a, ha, rfl⟩ := r
        obtain ⟨C, dx, us, gc, hH, ek, rv⟩ := s.at_ m a _ ha g
        obtain ⟨C', gc', cl, no⟩ := na c' (by simpa using hc)
        rw [gc] at gc'
        cases gc'
        exact ⟨a, C, dx, us, rfl, ha, by simpa using hc, gc, hH, cl, no, ek, rv⟩
      · cases h
    · cases h
  | _ => simp [insOf] at h
def fldOf (al : List Str) (f : Str) (d : D) (G : GS) : RE D := match insOf al G d with
  | some (_, _, fs) => match fs.lookup f with | some x => .ok x G | none => .bad
  | none => .bad
theorem le_fld {al : List Str} {e : Expr} {f : Str} {d : DE} {pos : Pos} (na : NA X.K X.mg al f) (he : PEd X W e d) (hb : attributeBase e f X.env (eval e X.env) = eval e X.env := by rfl) : PEd X W (.Attribute e f pos) (eUn (fldOf al f) d) := by
  refine (pe_fld he hb).le fun σ H Q ⟨ρ, σd, G, c, h⟩ => ⟨ρ, σd, G, c, (EP'.bind h).mono fun _ H1 _ _ v _ _ _ _ ⟨ρ1, G1, d1, e1, s1, r1, _, h1⟩ => ?_⟩
  unfold fldOf at h1
  split at h1
  · rename_i n c' fs q
    obtain ⟨a, C, dx, us, rfl, _, _, _, hH, cl, no, ek, rv⟩ := insOf_at na s1 q r1
    split at h1
    · rename_i x hx
      obtain ⟨u, hu, ru⟩ := look_kv ek rv hx
      exact ⟨a, C, dx, us, u, rfl, hH, cl, no, hu, now h1 s1 ru⟩
    · exact h1.elim
  · exact h1.elim
def setF (al : List Str) (f : Str) (x y : D) (σ : PEnv) (G : GS) : RSt := match insOf al G x with
  | some (n, c, fs) => if fs.length < 1000 then .nx σ (G.set n (.ins c (putD f y fs))) else .bad
  | none => .bad
def sFldD (al : List Str) (f : Str) (o v : DE) : DS := fun σ G => bindS (v σ G) σ fun y G1 => bindS (o σ G1) σ fun x G2 => setF al f x y σ G2
theorem setF_ok {al : List Str} {f : Str} (na : NA X.K X.mg al f) {ρ : List Addr} {σd : PEnv} {G : GS} {σ : L2.St} {H : Hp} {x y : D} {v u : V} {Dn : Ends} (c : Ct X.K X.mg ρ σd G σ H) (rx : RD X.K ρ H x v) (ry : RD X.K ρ H y u) (h : SPst X.K X.mg W ρ H (setF al f x y σd G) Dn) :
    ∃ a C dx fs, v = .ref a ∧ (∃ c ∈ al, X.mg c = some (.ref C)) ∧ H a = some (.ins C dx fs) ∧ Cls X.K C ∧ NoAttr X.K C f ∧ fs.length < 1000 ∧ Dn.nx σ (upd H a (.ins C dx (putF f u fs))) := by
  unfold setF at h
  split at h
  · rename_i n c' fs q
    obtain ⟨a, C, dx, us, rfl, hp, hc, gc, hH, cl, no, ek, rv⟩ := insOf_at na c.rs q rx
    split at h
    · rename_i hl
      have el : us.length = fs.length := by have := congrArg List.length ek; simpa using this
      refine ⟨a, C, dx, us, rfl, ⟨_, hc, gc⟩, hH, cl, no, by rw [el]; exact hl, ?_⟩
      obtain ⟨ex, rs⟩ := c.rs.write (o := .ins C dx (putF f u us)) (ob := .ins c' (putD f y fs)) hp fun ex => by
        obtain ⟨k1, k2⟩ := put_kv (f := f) (ry.ext ex) ek (rv.ext ex)
        exact ⟨C, dx, _, gc, upd_same, k1, k2⟩
      exact h _ _ _ ex (c.ext ex rs)
    · exact h.elim
  · exact h.elim
theorem le_setFld {al : List Str} {o value : Expr} {f : Str} {od vd : DE} {pos pos' : Pos} (na : NA X.K X.mg al f) (hv : PEd X W value vd) (ho : PEd X W o od) (hs : swapsWith value (some (.Attribute o f pos')) pos.line X.env = pure false := by rfl) : PSd X W (.Assign [.Attribute o f pos'] value pos) (sFldD al f od vd) := by
  refine (ps_fld ho hv hs).le fun Dn σ H ⟨ρ, σd, G, c, h⟩ => ⟨ρ, σd, G, c, (SPst.bind c h).mono fun _ H1 _ _ y _ _ _ _ ⟨ρ1, G1, dy, e1, c1, r1, h1⟩ => ?_⟩
  refine ⟨ρ1, σd, G1, c1, (SPst.bind c1 h1).mono fun _ H2 _ _ x _ _ _ _ ⟨ρ2, G2, dx, e2, c2, r2, h2⟩ => ?_⟩
  obtain ⟨a, C, dx, fs, z1, _, z2⟩ := setF_ok na c2 r2 (r1.ext e2) h2
  exact ⟨a, C, dx, fs, z1, z2⟩
/-- o.f op= e -/
def fldS (al : List Str) (f : Str) (x : D) (G : GS) : RE D := fldOf al f x G
def augF (al : List Str) (f : Str) (g : D → D → GS → RE D) (e : DE) (x : D) (σ : PEnv) (G : GS) : RSt := match insOf al G x with
  | some (_, c, fs) => match fs.lookup f with
    | some v => bindS (e σ G) σ fun y G3 => bindS (g v y G3) σ fun z G4 => setF [c] f x z σ G4
    | none => .bad
  | none => .bad
def sFldA (al : List Str) (f : Str) (g : D → D → GS → RE D) (o e : DE) : DS := fun σ G => bindS (o σ G) σ fun x G1 => augF al f g e x σ G1
theorem le_fldAug {al : List Str} {o e : Expr} {f : Str} {od ed : DE} {pos tpos : Pos} {op : Operator} {r : R2} {g : D → D → GS → RE D} (na : NA X.K X.mg al f) (hop : OpR X (inplaceOp op) r) (hf : Srv2 X r g) (ho : PEd X W o od) (he : PEd X W e ed) : PSd X W (.AugAssign (.Attribute o f tpos) op e pos) (sFldA al f g od ed) := by
  refine (ps_fldaug (rd := r) ho he hop).le fun Dn σ H ⟨ρ, σd, G, c, h⟩ => ⟨ρ, σd, G, c, (SPst.bind c h).mono fun _ H1 _ _ x _ _ _ _ ⟨ρ1, G1, dx, e1, c1, r1, h1⟩ => ?_⟩
  unfold augF at h1
  split at h1
  · rename_i n c' fs q
    obtain ⟨a, C, dxx, us, rfl, hp, hc, gc, hH, cl, no, ek, rv⟩ := insOf_at na c1.rs q r1
    split at h1
    · rename_i d hd
      obtain ⟨u, hu, ru⟩ := look_kv ek rv hd
      have na1 : NA X.K X.mg [c'] f := fun k hk => na k (by rw [List.mem_singleton.mp hk]; exact hc)
      refine ⟨a, C, dxx, us, u, rfl, hH, cl, no, hu, ρ1, σd, G1, c1, (SPst.bind c1 h1).mono fun _ H2 _ _ y _ _ _ _ ⟨ρ2, G2, dy, e2, c2, r2, h2⟩ => ?_⟩
      refine hf _ ρ2 G2 H2 u y d dy _ c2.rs (ru.ext e2) r2 ((SPst.bind c2 h2).mono fun _ H3 _ _ z _ _ _ _ ⟨ρ3, G3, dz, e3, c3, r3, h3⟩ => ?_)
      obtain ⟨a', C', dx', us', ev, ⟨k, hk, gk⟩, hH', cl', no', hl, q'⟩ := setF_ok na1 c3 ((r1.ext e2).ext e3) r3 h3
      cases ev
      rw [List.mem_singleton.mp hk, gc] at gk
      cases gk
      exact ⟨dx', us', hH', hl, q'⟩
    · exact h1.elim
  · exact h1.elim
end
/-! ## methods -/
def FnM (P : Program) (w : World) (K : PySem.W.Frag) (mg : MG) (base : Heap) (c m : Str) (k : Nat) (ps : List Str) (F : DF) : Prop :=
  ∃ fd, FnOk P w K mg base (L2.CX P w) k (He.ma K (He.ga K c) m) fd ps (spF K mg ps.length F) ∧ Binds K fd ps []
theorem fnM {P : Program} {w : World} {K : PySem.W.Frag} {mg : MG} {base : Heap} {c m x qual : Str} {params : Arguments} {body : List Stmt} {scope : Scope} {N ps : List Str} {k n : Nat} {b : DS}
    (F : ∃ fd, FunD K x qual params body scope [] [] (He.ma K (He.ga K c) m) fd) (S : FnScope N ps scope) (hn : N.length = n)
    (hb : ∀ (kV doc pm : Value) (an : Option Addr) (cdv ct : Value) (us : List Value), us.length = ps.length → bindArgs (PySem.W.fnOf x qual params body scope .none kV doc pm an cdv ct) ⟨us, []⟩ = pure (ps.zip us))
    (hbody : ∀ (f : Addr) (cdv : Value) (A : Around) (outer : List Env) (s : Shared) (H : Hp) (E : XK), Room k (A.deeper (PyProof.Rows.envOfC qual scope s.heap.objs.size f cdv)) →
      PSsd (cxOf (L2.CX P w) P w K mg base N qual scope f cdv A outer s H E) (WF E) body b) : FnM P w K mg base c m (k + 1) ps (runF n b) := by
  obtain ⟨fd, F⟩ := F
  exact ⟨fd, fn_ok F S hn fun cdv A outer s H E hr => hbody _ cdv A outer s H E hr, F.bindsN hb⟩
/-- the class c has the method m -/
def CM (K : PySem.W.Frag) (mg : MG) (c m : Str) : Prop := mg c = some (.ref (He.ga K c)) ∧ Cls K (He.ga K c) ∧ Meth K (He.ga K c) m (He.ma K (He.ga K c) m)
def selfIs (c m : Str) (G : GS) : D → Bool
  | .ref n => match G[n]? with
    | some (.ins c' fs) => decide (c' = c) && (fs.lookup m).isNone
    | _ => false
  | _ => false
def eMeth (c m : Str) (F : DF) (o : DE) (a : DA) : DE := fun σ G => bindE (o σ G) fun x G1 => if selfIs c m G1 x = true then bindE (a σ G1) fun xs G2 => F (x :: xs) G2 else .bad
section
variable {X : Cx} {W : WX}
theorem self_at {c m : Str} (cm : CM X.K X.mg c m) {ρ : List Addr} {G : GS} {H : Hp} {d : D} {v : V} (s : RS X.K X.mg ρ G H) (h : selfIs c m G d = true) (r : RD X.K ρ H d v) : ∃ a dx us, v = .ref a ∧ H a = some (.ins (He.ga X.K c) dx us) ∧ us.lookup m = none := by
  cases d with
  | ref n =>
    simp only [selfIs] at h
    split at h
    · rename_i c' fs g
      simp only [Bool.and_eq_true, decide_eq_true_eq, Option.isNone_iff_eq_none] at h
      obtain ⟨rfl, hn⟩ := h
      obtain ⟨a, ha, rfl⟩ := r
      obtain ⟨C, dx, us, gc, hH, ek, rv⟩ := s.at_ n a _ ha g
      rw [cm.1] at gc
      cases gc
      exact ⟨a, dx, us, rfl, hH, look_none ek hn⟩
    · cases h
  | _ => simp [selfIs] at h
section
variable {k : Nat} {ps : List Str} {F : DF} {c m : Str} {o e : Expr} {es : List Expr} {od : DE} {da : DA} {apos pos : Pos} {pl : Sem Bool}
theorem le_meth (cm : CM X.K X.mg c m) (Fm : FnM X.prog X.w X.K X.mg X.base c m k ps F) (tk : Takes X W) (hr : Room k X.A) (ho : PEd X W o od) (ha : PAd X W (e :: es) da) (hn : ∀ σ G xs G', da σ G = .ok xs G' → xs.length + 1 = ps.length)
    (ht : eval (.Call (.Attribute o m apos) (e :: es) [] pos) X.env = (do let ov ← eval o X.env; standAt apos.atName; let (f, first) ← holding [ov] (getMethod ov m pl); callWith pos f first (backTo pos (starEach (e :: es) X.env)) (backToKw pos (keywordEach [] X.env))) := by rfl)
    (hst : starEach (e :: es) X.env = (false, eval e X.env) :: starEach es X.env := by rfl) (hpl : (backTo pos (starEach es X.env)).any (·.1) = false := by rfl) : PEd X W (.Call (.Attribute o m apos) (e :: es) [] pos) (eMeth c m F od da) := by
  obtain ⟨fd, Fk, bd⟩ := Fm
  refine ⟨fun pins s σ H Q I h => ?_⟩
  obtain ⟨ρ, σd, G, ct, h⟩ := h
  have first := ho.run pins s σ H _ I ⟨ρ, σd, G, ct, (EP'.bind h).mono fun _ _ _ _ _ _ _ _ _ z => z⟩
  refine PySem.W.methodCall_KW (pl := pl) (thn first fun u s1 ⟨x, H1, I1, rx, ρ1, G1, d1, e1, rs1, r1, _, h1⟩ => ?_) ht
  by_cases hs : selfIs c m G1 d1 = true
  · rw [if_pos hs] at h1
    obtain ⟨a, dx, us, rfl, hH, hl⟩ := self_at cm rs1 hs r1
    obtain rfl : u = Value.ref a := rx
    refine getmeth_ok I1 hH cm.2.1 cm.2.2 hl ?_
    have second := ha.run pos pins s1 σ H1 _ I1 ⟨ρ1, σd, G1, ct.ext e1 rs1, (EP'.bind h1).mono fun _ _ _ _ _ _ _ _ _ z => z⟩
    refine PySem.W.callWith_K (first := [.ref a]) (h₀ := X.base) I1.ok.mod.kin cm.2.2.kp (thn second fun ws s2 ⟨vs, H2, I2, rv, ρ2, G2, ds, e2, rs2, r2, q2, h2⟩ => ⟨I2.kIn, ?_⟩) hst hpl
    exact run_fnS (us := .ref a :: ws) (vs := .ref a :: vs) Fk hr bd (passAt tk σ) I2 (.cons rfl rv) ⟨ρ2, d1 :: ds, G2, rs2, RDs.cons (r1.ext e2) r2, by rw [List.length_cons]; exact hn _ _ _ _ q2, h2⟩
  · rw [if_neg hs] at h1; exact h1.elim
theorem le_meth0 (cm : CM X.K X.mg c m) (Fm : FnM X.prog X.w X.K X.mg X.base c m k ps F) (tk : Takes X W) (hr : Room k X.A) (ho : PEd X W o od) (hn : ps.length = 1)
    (ht : eval (.Call (.Attribute o m apos) [] [] pos) X.env = (do let ov ← eval o X.env; standAt apos.atName; let (f, first) ← holding [ov] (getMethod ov m pl); callWith pos f first (backTo pos (starEach [] X.env)) (backToKw pos (keywordEach [] X.env))) := by rfl) : PEd X W (.Call (.Attribute o m apos) [] [] pos) (eMeth c m F od aNil) := by
  obtain ⟨fd, Fk, bd⟩ := Fm
  refine ⟨fun pins s σ H Q I h => ?_⟩
  obtain ⟨ρ, σd, G, ct, h⟩ := h
  have first := ho.run pins s σ H _ I ⟨ρ, σd, G, ct, (EP'.bind h).mono fun _ _ _ _ _ _ _ _ _ z => z⟩
  refine PySem.W.methodCall_KW (pl := pl) (thn first fun u s1 ⟨x, H1, I1, rx, ρ1, G1, d1, e1, rs1, r1, _, h1⟩ => ?_) ht
  by_cases hs : selfIs c m G1 d1 = true
  · rw [if_pos hs] at h1
    obtain ⟨a, dx, us, rfl, hH, hl⟩ := self_at cm rs1 hs r1
    obtain rfl : u = Value.ref a := rx
    refine getmeth_ok I1 hH cm.2.1 cm.2.2 hl ?_
    exact PySem.W.callWith_K0 (first := [.ref a]) I1.kIn cm.2.2.kp (run_fnS (us := [.ref a]) (vs := [.ref a]) Fk hr bd (passAt tk σ) I1 (.cons rfl .nil) ⟨ρ1, [d1], G1, rs1, RDs.cons r1 RDs.nil, hn.symm, h1⟩)
  · rw [if_neg hs] at h1; exact h1.elim
end
theorem len_succ {da : DA} {n : Nat} (h : ∀ σ G xs G', da σ G = .ok xs G' → xs.length = n) : ∀ σ G xs G', da σ G = .ok xs G' → xs.length + 1 = n + 1 := fun σ G xs G' e => by rw [h σ G xs G' e]
/-! ## a new object -/
def eMake (c : Str) (F : DF) (a : DA) : DE := fun σ G => bindE (a σ G) fun xs G1 => bindN (F (.ref G1.length :: xs) (G1 ++ [.ins c []])) fun v G2 => match v with
  | .non => .ok (.ref G1.length) G2
  | _ => .bad
theorem pass_never : Passes (L2.CX X.prog X.w) X (fun _ _ _ => False) := fun _ _ _ _ _ _ _ z => by
  obtain ⟨_, _, _, _, _, _, _, _, _, _, _, _, z⟩ := z
  exact z.elim
theorem le_make {k : Nat} {ps : List Str} {F : DF} {c : Str} {e : Expr} {es : List Expr} {da : DA} {p pos : Pos} (gC : X.mg c = some (.ref (He.ga X.K c))) (M : Mk X.K (He.ga X.K c) (He.ma X.K (He.ga X.K c) "__init__")) (Fm : FnM X.prog X.w X.K X.mg X.base c "__init__" k ps F) (hr : Room (k + 1) X.A) (hg : Gl X c)
    (ha : PAd X W (e :: es) da) (hn : ∀ σ G xs G', da σ G = .ok xs G' → xs.length + 1 = ps.length) (hdb : (c == ("__debug__" : Str)) = false := by decide) (he : starEach (e :: es) X.env = (false, eval e X.env) :: starEach es X.env := by rfl) (hpl : (backTo pos (starEach es X.env)).any (·.1) = false := by rfl) :
    PEd X W (.Call (.Name c p) (e :: es) [] pos) (eMake c F da) := by
  obtain ⟨fd, Fk, bd⟩ := Fm
  refine (pe_make (dvs := []) M Fk hr hg gC bd .nil pass_never ha hdb he hpl).le fun σ H Q ⟨ρ, σd, G, ct, h⟩ => ⟨ρ, σd, G, ct, (EP'.bind h).mono fun _ H1 _ _ vs _ _ _ _ ⟨ρ1, G1, ds, e1, s1, r1, q1, h1⟩ => ?_⟩
  intro x dx nx ndx ne
  rw [List.append_nil]
  obtain ⟨ea, sa⟩ := s1.lay (.own x) ndx
  have nx2 : upd H1 dx (.own x) x = none := by rw [upd_ne (Ne.symm ne)]; exact nx
  obtain ⟨eb, sb⟩ := sa.push (o := .ins (He.ga X.K c) dx []) (ob := .ins c []) nx2 fun ex => ⟨_, dx, [], gC, upd_same, rfl, rfl⟩
  have hx : (ρ1 ++ [x])[G1.length]? = some x := by rw [← s1.len, List.getElem?_append_right (Nat.le_refl _)]; simp
  refine ⟨ρ1 ++ [x], .ref G1.length :: ds, G1 ++ [.ins c []], sb, RDs.cons ⟨x, hx, rfl⟩ ((r1.ext ea).ext eb), by rw [List.length_cons]; exact hn _ _ _ _ q1, ?_⟩
  refine (EP'.bindN' (W := WA W σ) (W' := fun _ _ _ => False) (EP'.deeper eb (EP'.deeper ea h1))).mono fun _ H2 _ _ v _ _ _ _ ⟨ρ2, G2, d2, e2, s2, r2, h2⟩ => ?_
  cases d2 with
  | non =>
    cases (show _ = _ from r2)
    exact ⟨rfl, h2 ρ2 H2 _ (.refl _ _) s2 ⟨x, e2.get hx, rfl⟩⟩
  | _ => exact h2.elim
end
end Dl
namespace Dl
open PySem L2
/-! ## own exceptions whose __init__ puts its parameters into fields of the same order -/
def oexB (K : PySem.W.Frag) (c : Str) : Bool :=
  (match K.lookup (He.ga K c) with
    | some ⟨.type t, _, .cls cd, sl⟩ => (match cd.mro, sl.toList with
      | .ref C :: bm, [_, _, _, _, some (.builtin n), _] => decide (t = "type") && (decide (C = He.ga K c) && (PySem.HandSPX.refsVE bm && (cd.hasDict && (!cd.hasDel && decide (n = "ValueError.__new__")))))
      | _, _ => false)
    | _ => false) &&
  (decide (PySem.W.findIn K (.ref (He.ga K c)) "__setattr__" = some (some (.builtin "object.__setattr__"))) && (decide (PySem.W.subIn K (.ref (He.ga K c)) (.type "BaseException") = some true) && (decide (PySem.W.typeIn K (.ref (He.ga K c)) = some (.type "type")) &&
    (PySem.W.keepIn K (.ref (He.ga K c)) && (decide (PySem.W.findIn K (.ref (He.ga K c)) "__init__" = some (some (.ref (He.ma K (He.ga K c) "__init__")))) && decide (PySem.W.typeIn K (.ref (He.ma K (He.ga K c) "__init__")) = some (.type "function")))))))
structure EXC (K : PySem.W.Frag) (c : Str) : Prop where
  oex : OexC K (He.ga K c)
  iC : PySem.W.findIn K (.ref (He.ga K c)) "__init__" = some (some (.ref (He.ma K (He.ga K c) "__init__")))
  tI : PySem.W.typeIn K (.ref (He.ma K (He.ga K c) "__init__")) = some (.type "function")
theorem oexB_ok {K : PySem.W.Frag} {c : Str} (h : oexB K c = true) : EXC K c := by
  unfold oexB at h
  simp only [Bool.and_eq_true, decide_eq_true_eq] at h
  obtain ⟨h1, h2, h3, h4, h5, h6, h7⟩ := h
  refine ⟨⟨?_, h2, h3, h4, h5⟩, h6, h7⟩
  split at h1
  · rename_i t dd cd sl ho
    split at h1
    · rename_i C bm k0 k1 k2 k3 n k5 hm hs
      simp only [Bool.and_eq_true, decide_eq_true_eq, Bool.not_eq_true'] at h1
      obtain ⟨rfl, rfl, hb, hd, hdel, rfl⟩ := h1
      obtain ⟨nm, bs, mro, ns, qn, hdc, sn, sub, ab, col, del⟩ := cd
      dsimp only at hm hd hdel
      subst hm hd hdel
      have hsl : sl = #[k0, k1, k2, k3, some (.builtin "ValueError.__new__"), k5] := by
        obtain ⟨l⟩ := sl
        simp only at hs
        rw [hs]
      subst hsl
      exact ⟨nm, qn, ns, bs, bm, sn, sub, ab, col, dd, k0, k1, k2, k3, k5, ho, hb⟩
    · cases h1
  · cases h1
def tOsts (K : PySem.W.Frag) : List (Str × Nat) → TS
  | [] => tNext
  | p :: r => tSeq (tOst K p.1 (tVar 0) (tVar p.2)) (tOsts K r)
def addF : List (Str × Nat) → List V → List (Str × V) → List (Str × V)
  | [], _, fs => fs
  | p :: r, vs, fs => addF r vs ((p.1, vs.getD p.2 .non) :: fs)
theorem upd_again {H : Hp} {a : Addr} {o : HO} (h : H a = some o) : upd H a o = H := by
  funext b
  unfold upd
  by_cases e : b = a
  · rw [if_pos e, e, h]
  · rw [if_neg e]
theorem osts_run {K : PySem.W.Frag} {C a dx : Addr} (T : OexC K C) {vs : List V} {σ : L2.St} {D : Ends} (h0 : σ[0]? = some (some (.ref a))) (ne : dx ≠ a) : ∀ (L : List (Str × Nat)) (H : Hp) (fs : List (Str × V)), (∀ p ∈ L, PySem.W.findIn K (.ref C) p.1 = some none) →
    (∀ p ∈ L, σ[p.2]? = some (some (vs.getD p.2 .non))) → H a = some (exo a C (some dx)) → H dx = some (exd dx fs) → fs.length + L.length ≤ 900 → D.nx σ (upd H dx (exd dx (addF L vs fs))) → tOsts K L D σ H
  | [], H, fs, _, _, _, ed, _, q => by
    show D.nx σ H
    rw [← upd_again ed]
    exact q
  | p :: L, H, fs, hno, hσ, ea, ed, hl, q => by
    have hl' : fs.length + (L.length + 1) ≤ 900 := hl
    refine ⟨_, hσ p List.mem_cons_self, _, h0, a, C, rfl, T, hno p List.mem_cons_self, .inr ⟨dx, fs, ea, ed, by omega, ?_⟩⟩
    refine osts_run T h0 ne L _ _ (fun p hp => hno p (List.mem_cons_of_mem _ hp)) (fun p hp => hσ p (List.mem_cons_of_mem _ hp)) (by rw [upd_ne (Ne.symm ne)]; exact ea) upd_same (by rw [List.length_cons]; omega) ?_
    show D.nx σ (upd (upd H dx _) dx _)
    rw [upd_upd]
    exact q
def Lof : Nat → List Str → List (Str × Nat)
  | _, [] => []
  | k, f :: r => (f, k) :: Lof (k + 1) r
theorem Lof_mem : ∀ {k : Nat} {names : List Str} {p : Str × Nat}, p ∈ Lof k names → p.1 ∈ names ∧ k ≤ p.2 ∧ p.2 < k + names.length
  | k, [], p, h => by simp [Lof] at h
  | k, f :: r, p, h => by
    rcases List.mem_cons.mp h with e | h
    · subst e; simp
    · obtain ⟨h1, h2, h3⟩ := Lof_mem h
      refine ⟨List.mem_cons_of_mem _ h1, by omega, ?_⟩
      rw [List.length_cons]; omega
theorem addF_Lof {vs : List V} : ∀ (names : List Str) (k : Nat) (fs : List (Str × V)), vs.length = k + names.length → addF (Lof k names) vs fs = (names.zip (vs.drop k)).reverse ++ fs
  | [], k, fs, _ => rfl
  | f :: r, k, fs, h => by
    have hk : k < vs.length := by rw [h, List.length_cons]; omega
    show addF (Lof (k + 1) r) vs ((f, vs.getD k .non) :: fs) = _
    rw [addF_Lof r (k + 1) _ (by rw [h, List.length_cons]; omega), List.drop_eq_getElem_cons hk, List.zip_cons_cons, List.reverse_cons, List.append_assoc]
    simp [List.getD, hk]
/-- __init__ of such a class -/
def spI (C : Addr) (names : List Str) : Sp := fun vs H Q _ => ∃ a ws, vs = .ref a :: ws ∧ ws.length = names.length ∧ H a = some (exo a C none) ∧
  ∀ d, H d = none → d ≠ a → Q .non (upd (upd H d (exd d (names.zip ws).reverse)) a (exo a C (some d)))
def FnI (P : Program) (w : World) (K : PySem.W.Frag) (mg : MG) (base : Heap) (c : Str) (ps names : List Str) : Prop :=
  ∃ fd, FnOk P w K mg base (L2.CX P w) 1 (He.ma K (He.ga K c) "__init__") fd ps (spI (He.ga K c) names) ∧ Binds K fd ps []
theorem fnI {P : Program} {w : World} {K : PySem.W.Frag} {mg : MG} {base : Heap} {c x qual : Str} {params : Arguments} {body : List Stmt} {scope : Scope} {N ps : List Str} {f0 : Str} {names : List Str} (ex : EXC K c)
    (F : ∃ fd, FunD K x qual params body scope [] [] (He.ma K (He.ga K c) "__init__") fd) (S : FnScope N ps scope) (hps : ps.length = (f0 :: names).length + 1) (hl : (f0 :: names).length ≤ 900) (hno : ∀ f ∈ f0 :: names, NoAttr K (He.ga K c) f)
    (hb : ∀ (kV doc pm : Value) (an : Option Addr) (cdv ct : Value) (us : List Value), us.length = ps.length → bindArgs (PySem.W.fnOf x qual params body scope .none kV doc pm an cdv ct) ⟨us, []⟩ = pure (ps.zip us))
    (hbody : ∀ (f : Addr) (cdv : Value) (A : Around) (outer : List Env) (s : Shared) (H : Hp) (E : XK), PSs (cxOf (L2.CX P w) P w K mg base N qual scope f cdv A outer s H E) body (tOsts K (Lof 1 (f0 :: names)))) : FnI P w K mg base c ps (f0 :: names) := by
  obtain ⟨fd, F⟩ := F
  refine ⟨fd, F.ok (k := 0) S (fun vs H Q E ⟨a, ws, e, h, _⟩ => by rw [e, List.length_cons, h, hps]) fun cdv A outer s H vs Q E hr ⟨a, ws, e, h, ha, q⟩ => ⟨_, hbody _ cdv A outer s H E, ?_⟩, F.bindsN hb⟩
  subst e
  have at_ : ∀ i, i < ws.length + 1 → (L2.start N (V.ref a :: ws))[i]? = some (some ((V.ref a :: ws).getD i .non)) := fun i hi => by
    unfold L2.start
    rw [List.getElem?_append_left (by simpa using hi), List.getElem?_map]
    have hi' : i < (V.ref a :: ws).length := hi
    rw [List.getElem?_eq_getElem hi']
    simp [List.getD, List.getElem?_eq_getElem hi']
  have h1 : 1 < ws.length + 1 := by rw [h, List.length_cons]; omega
  have ne1 : ∀ p ∈ Lof 1 (f0 :: names), p.2 < ws.length + 1 := fun p hp => by have := (Lof_mem hp).2.2; rw [h]; omega
  refine ⟨_, at_ 1 h1, _, at_ 0 (by omega), a, He.ga K c, rfl, ex.oex, hno _ List.mem_cons_self, .inl ⟨ha, fun dx hd hda => ?_⟩⟩
  refine osts_run ex.oex (vs := V.ref a :: ws) (at_ 0 (by omega)) hda (Lof 2 names) _ [(f0, (V.ref a :: ws).getD 1 .non)] (fun p hp => hno _ (List.mem_cons_of_mem _ (Lof_mem hp).1)) (fun p hp => at_ _ (ne1 p (List.mem_cons_of_mem _ hp))) upd_same (by rw [upd_ne hda]; exact upd_same) ?_ ?_
  · have : (Lof 2 names).length = names.length := by
      have : ∀ k (l : List Str), (Lof k l).length = l.length := fun k l => by induction l generalizing k with | nil => rfl | cons _ _ ih => simp [Lof, ih]
      exact this 2 names
    rw [this]
    have : (f0 :: names).length = names.length + 1 := rfl
    rw [List.length_singleton]; omega
  · have e := addF_Lof (vs := V.ref a :: ws) (f0 :: names) 1 [] (by rw [List.length_cons, h]; omega)
    rw [List.append_nil, List.drop_one, List.tail_cons] at e
    have e2 : addF (Lof 2 names) (V.ref a :: ws) [(f0, (V.ref a :: ws).getD 1 .non)] = ((f0 :: names).zip ws).reverse := e
    rw [e2]
    have e3 : upd (upd (upd H dx (exd dx [(f0, (V.ref a :: ws).getD 1 .non)])) a (exo a (He.ga K c) (some dx))) dx (exd dx ((f0 :: names).zip ws).reverse) = upd (upd H dx (exd dx ((f0 :: names).zip ws).reverse)) a (exo a (He.ga K c) (some dx)) := by
      funext b
      unfold upd
      by_cases hb : b = dx
      · subst hb
        rw [if_pos rfl, if_neg hda, if_pos rfl]
      · rw [if_neg hb, if_neg hb]
        by_cases hb2 : b = a
        · rw [if_pos hb2, if_pos hb2]
        · rw [if_neg hb2, if_neg hb2, if_neg hb]
    have e4 := q dx hd hda
    rw [← e3] at e4
    exact e4
def excFs (names : List Str) (ds : List D) : List (Str × D) := (names.zip ds).reverse
def sRaise (c : Str) (names : List Str) (a : DA) : DS := fun σ G => bindS (a σ G) σ fun xs G1 => if (decide (xs.length = names.length) && decide (xs.length ≤ 900)) = true then .exc c (excFs names xs) σ G1 else .bad
theorem zip_fst {α β : Type} : ∀ (l : List α) (m : List β), l.length = m.length → (l.zip m).map (·.1) = l
  | [], _, _ => by simp
  | _ :: _, [], h => by simp at h
  | x :: l, y :: m, h => by simp [zip_fst l m (by simpa using h)]
theorem zip_snd {α β : Type} : ∀ (l : List α) (m : List β), l.length = m.length → (l.zip m).map (·.2) = m
  | [], [], _ => rfl
  | [], _ :: _, h => by simp at h
  | _ :: _, [], h => by simp at h
  | x :: l, y :: m, h => by simp [zip_snd l m (by simpa using h)]
section
variable {X : Cx} {W : WX}
theorem le_raise {c : Str} {ps names : List Str} {e : Expr} {es : List Expr} {da : DA} {p pos pos2 : Pos} (ex : EXC X.K c) (gC : X.mg c = some (.ref (He.ga X.K c))) (Fi : FnI X.prog X.w X.K X.mg X.base c ps names) (hr : Room 2 X.A) (hc : X.calm = true) (tk : Takes X W) (hg : Gl X c) (ha : PAd X W (e :: es) da)
    (hdb : (c == ("__debug__" : Str)) = false := by decide) (he : starEach (e :: es) X.env = (false, eval e X.env) :: starEach es X.env := by rfl) (hpl : (backTo pos (starEach es X.env)).any (·.1) = false := by rfl) :
    PSd X W (.Raise (some (.Call (.Name c p) (e :: es) [] pos)) none pos2) (sRaise c names da) := by
  obtain ⟨fd, Fk, bd⟩ := Fi
  refine (ps_raise hc tk (pmk_oex (dvs := []) ex.oex ex.iC ex.tI Fk hr bd .nil pass_never hg gC ha hdb he hpl)).le fun Dn σ H ⟨ρ, σd, G, ct, h⟩ => ⟨ρ, σd, G, ct, (SPst.bind ct h).mono fun _ H1 _ _ vs _ _ _ _ ⟨ρ1, G1, xs, e1, c1, r1, h1⟩ => ?_⟩
  by_cases hl : (decide (xs.length = names.length) && decide (xs.length ≤ 900)) = true
  · rw [if_pos hl] at h1
    simp only [Bool.and_eq_true, decide_eq_true_eq] at hl
    have el := r1.length
    refine ⟨by omega, fun a na => ?_⟩
    rw [List.append_nil]
    refine ⟨a, vs, rfl, by omega, upd_same, fun d hd hda => ⟨rfl, d, (names.zip vs).reverse, upd_same, by rw [upd_ne hda]; exact upd_same, ?_, ?_⟩⟩
    · rw [upd_ne hda] at hd; exact hd
    · have hd' : H1 d = none := by rw [upd_ne hda] at hd; exact hd
      have eH : upd (del (upd (upd (upd H1 a (exo a (He.ga X.K c) none)) d (exd d (names.zip vs).reverse)) a (exo a (He.ga X.K c) (some d))) a) d (.xd (names.zip vs).reverse) = upd H1 d (.xd (names.zip vs).reverse) := by
        funext b
        unfold upd del
        by_cases hb : b = d
        · rw [if_pos hb, if_pos hb]
        · rw [if_neg hb, if_neg hb]
          by_cases hb2 : b = a
          · rw [if_pos hb2, hb2, na]
          · simp [hb, hb2]
      rw [eH]
      obtain ⟨ee, ss⟩ := c1.rs.lay (.xd (names.zip vs).reverse) hd'
      refine h1 ρ1 _ σ _ (some d) ee (c1.ext ee ss) gC ⟨_, upd_same, c1.rs.fresh hd', ?_, ?_⟩
      · unfold excFs
        rw [List.map_reverse, List.map_reverse, zip_fst _ _ (by omega), zip_fst _ _ (by omega)]
      · unfold excFs
        rw [List.map_reverse, List.map_reverse, zip_snd _ _ (by omega), zip_snd _ _ (by omega)]
        exact (r1.ext ee).reverse
  · rw [if_neg hl] at h1; exact h1.elim
end
end Dl
namespace Dl
open PySem PySem.Spec PyProof.Rows L2
/-! ## dicts that stand still: d[k], k in d -/
abbrev DK := Sum Int (List Nat)
def keyD : D → Option DK
  | .int i => some (.inl i)
  | .str s => some (.inr s)
  | _ => none
theorem kS_inj {k l : DK} (h : kS k = kS l) : k = l := by
  cases k with
  | inl i => cases l with
    | inl j => simp only [kS, Sum.inl.injEq] at h; rw [h]
    | inr b => simp [kS] at h
  | inr a => cases l with
    | inl j => simp [kS] at h
    | inr b =>
      simp only [kS, Sum.inr.injEq] at h
      rw [SX.S_inj (show SX.S a = SX.S b from h)]
theorem keyD_is {K : PySem.W.Frag} {ρ : List Addr} {H : Hp} {d : D} {v : V} {k : DK} (h : keyD d = some k) (r : RD K ρ H d v) : v = kV (kS k) := by
  cases d <;> simp only [keyD, Option.some.injEq, reduceCtorEq] at h <;> subst h <;> exact r
def lookK (k : DK) : List DK → List D → Option D
  | l :: ks, d :: ds => if l = k then some d else lookK k ks ds
  | _, _ => none
theorem lookK_is {K : PySem.W.Frag} {ρ : List Addr} {H : Hp} {k : DK} : ∀ {ks : List DK} {ds : List D} {kvs : List (Key × V)}, kvs.map (·.1) = ks.map kS → RDs K ρ H ds (kvs.map (·.2)) →
    (match lookK k ks ds with | some d => ∃ v, valV kvs (kS k) = some v ∧ RD K ρ H d v | none => valV kvs (kS k) = none)
  | [], ds, kvs, e, r => by
    cases kvs with
    | nil => cases ds <;> rfl
    | cons _ _ => simp at e
  | l :: ks, ds, [], e, r => by simp at e
  | l :: ks, ds, (k', v) :: kvs, e, r => by
    simp only [List.map_cons, List.cons.injEq] at e
    obtain ⟨e1, e2⟩ := e
    subst e1
    cases ds with
    | nil => cases (show _ = _ from r)
    | cons d ds =>
      obtain ⟨v', r', ev, r1, r2⟩ := r
      simp only [List.map_cons, List.cons.injEq] at ev
      obtain ⟨z1, z2⟩ := ev
      subst z1
      subst z2
      unfold lookK valV
      by_cases h : l = k
      · subst h
        simp only [if_true, List.find?_cons, decide_true, Option.map_some]
        exact ⟨v, rfl, r1⟩
      · have h2 : ¬ kS l = kS k := fun z => h (kS_inj z)
        rw [if_neg h, List.find?_cons]
        simp only [h2, decide_false]
        exact lookK_is e2 r2
def rIxDk : R2 := fun x y H Q => ∃ a v, x = .ref a ∧ DGet H a y (some v) ∧ Q v H
section
variable {X : Cx} {W : WX}
theorem ix_dict (hu : X.A.units + 1 < cLine) : IxR X rIxDk := by
  intro value slice pins s σ H x y v u Q I rx ry h hs
  obtain ⟨a, r, rfl, g, q⟩ := h
  obtain rfl : v = Value.ref a := rx
  exact tail_any (dict_typeIs I g) PySem.F.slot_dict_getitem.lookup (d_getItem hu I g ry fun w' s3 I3 rw' => ⟨r, H, I3, rw', q⟩) hs
def rIxAny (K : PySem.W.Frag) : R2 := fun x y H Q => rIx K x y H Q ∨ rIxDk x y H Q
theorem ix_any (hu : X.A.units + 1 < cLine) : IxR X (rIxAny X.K) := ix_seq.or (ix_dict hu)
def dGet (ks : List DK) (ds : List D) (y : D) (G : GS) : RE D := match keyD y with
  | some k => match lookK k ks ds with | some d => .ok d G | none => .bad
  | none => .bad
def bIxA : D → D → GS → RE D := fun x y G => match x with
  | .dic ks ds => dGet ks ds y G
  | .ref n => match G[n]? with
    | some (.dic ks ds) => dGet ks ds y G
    | _ => bIx (.ref n) y G
  | x => bIx x y G
theorem dGet_is {W : XK} {ρ : List Addr} {G : GS} {H : Hp} {y : V} {dy : D} {Q : VK} {ks : List DK} {ds : List D} {a : Addr} {kvs : List (Key × V)} (s : RS X.K X.mg ρ G H) (hH : H a = some (.dK kvs)) (ek : kvs.map (·.1) = ks.map kS) (rv : RDs X.K ρ H ds (kvs.map (·.2))) (ry : RD X.K ρ H dy y) (q : EPD X.K X.mg W ρ H (dGet ks ds dy G) Q) : rIxDk (.ref a) y H Q := by
  unfold dGet at q
  split at q
  · rename_i k hk
    have ey := keyD_is hk ry
    subst ey
    have l := lookK_is (k := k) ek rv
    split at q
    · rename_i d hd
      rw [hd] at l
      obtain ⟨v, hv, rd⟩ := l
      exact ⟨a, v, rfl, by rw [← hv]; exact DGet.k hH, now q s rd⟩
    · exact q.elim
  · exact q.elim
theorem sv_ixA : Srv2 X (rIxAny X.K) bIxA := by
  intro W ρ G H x y dx dy Q s rx ry q
  cases dx with
  | dic ks ds =>
    obtain ⟨a, kvs, rfl, hH, hn, ek, rv⟩ := rx
    exact .inr (dGet_is s hH ek rv ry q)
  | ref n =>
    unfold bIxA at q
    simp only at q
    split at q
    · rename_i ks ds g
      obtain ⟨p, hp, rfl⟩ := rx
      obtain ⟨kvs, hH, ek, rv⟩ := s.at_ n p _ hp g
      exact .inr (dGet_is s hH ek rv ry q)
    · exact .inl (sv_ix W ρ G H x y _ dy Q s rx ry q)
  | _ => exact .inl (sv_ix W ρ G H x y _ dy Q s rx ry q)
def rInD (neg : Bool) : R2 := fun y x H Q => ∃ a o, x = .ref a ∧ DGet H a y o ∧ Q (.bl (xor neg o.isSome)) H
theorem op_inD (hu : X.A.units + 1 < cLine) : OpR X (compareOp .In) (fun x y H Q => rInA X.K false x y H Q ∨ rInD false x y H Q) := by
  intro pins s σ H x y v u Q I rx ry h
  rcases h with h | ⟨a, o, rfl, g, q⟩
  · exact op_inA pins s σ H x y v u Q I rx ry h
  · obtain rfl : u = Value.ref a := ry
    exact d_in hu I g rx fun s3 I3 => ⟨.bl o.isSome, H, I3, rfl, by rw [Bool.false_xor] at q; exact q⟩
theorem op_notInD (hu : X.A.units + 1 < cLine) : OpR X (compareOp .NotIn) (fun x y H Q => rInA X.K true x y H Q ∨ rInD true x y H Q) := by
  intro pins s σ H x y v u Q I rx ry h
  rcases h with h | ⟨a, o, rfl, g, q⟩
  · exact op_notInA pins s σ H x y v u Q I rx ry h
  · obtain rfl : u = Value.ref a := ry
    exact d_notIn hu I g rx fun s3 I3 => ⟨.bl (!o.isSome), H, I3, rfl, by rw [Bool.true_xor] at q; exact q⟩
def cInA (neg : Bool) : D → D → GS → RE D := fun x y G => match y with
  | .dic ks ds => match keyD x with
    | some k => .ok (.bl (xor neg (lookK k ks ds).isSome)) G
    | none => .bad
  | .ref n => match G[n]?, keyD x with
    | some (.dic ks ds), some k => .ok (.bl (xor neg (lookK k ks ds).isSome)) G
    | _, _ => cIn neg x (.ref n) G
  | y => cIn neg x y G
theorem inD_is {W : XK} {neg : Bool} {ρ : List Addr} {G : GS} {H : Hp} {x : V} {Q : VK} {ks : List DK} {ds : List D} {a : Addr} {k : DK} {kvs : List (Key × V)} (s : RS X.K X.mg ρ G H) (hH : H a = some (.dK kvs)) (ek : kvs.map (·.1) = ks.map kS) (rv : RDs X.K ρ H ds (kvs.map (·.2))) (ex : x = kV (kS k)) (q : EPD X.K X.mg W ρ H (.ok (.bl (xor neg (lookK k ks ds).isSome)) G) Q) : rInD neg x (.ref a) H Q := by
  subst ex
  have l := lookK_is (k := k) ek rv
  refine ⟨a, valV kvs (kS k), rfl, DGet.k hH, ?_⟩
  cases z : lookK k ks ds with
  | none => rw [z] at l q; rw [l]; exact now q s rfl
  | some d => rw [z] at l q; obtain ⟨v, hv, _⟩ := l; rw [hv]; exact now q s rfl
theorem sv_inD (neg : Bool) : Srv2 X (fun x y H Q => rInA X.K neg x y H Q ∨ rInD neg x y H Q) (cInA neg) := by
  intro W ρ G H x y dx dy Q s rx ry q
  cases dy with
  | dic ks ds =>
    unfold cInA at q
    simp only at q
    split at q
    · rename_i k hk
      obtain ⟨a, kvs, rfl, hH, hn, ek, rv⟩ := ry
      exact .inr (inD_is s hH ek rv (keyD_is hk rx) q)
    · exact q.elim
  | ref n =>
    unfold cInA at q
    simp only at q
    split at q
    · rename_i ks ds k g hk
      obtain ⟨p, hp, rfl⟩ := ry
      obtain ⟨kvs, hH, ek, rv⟩ := s.at_ n p _ hp g
      exact .inr (inD_is s hH ek rv (keyD_is hk rx) q)
    · exact .inl (sv_in neg W ρ G H x y dx _ Q s rx ry q)
  | _ => exact .inl (sv_in neg W ρ G H x y dx _ Q s rx ry q)
end
end Dl
namespace Dl
open PySem L2
/-! ## dicts that grow; dict comprehensions -/
def setKs (k : DK) (d : D) : List DK → List D → List D
  | l :: ks, x :: ds => (if l = k then d else x) :: setKs k d ks ds
  | _, ds => ds
def putKs (k : DK) (d : D) (ks : List DK) (ds : List D) : List DK × List D := if (ks.any fun l => decide (l = k)) = true then (ks, setKs k d ks ds) else (ks ++ [k], ds ++ [d])
section
variable {K : PySem.W.Frag} {ρ : List Addr} {H : Hp}
theorem setKs_is {k : DK} {d : D} {v : V} (rd : RD K ρ H d v) : ∀ {ks : List DK} {ds : List D} {kvs : List (Key × V)}, kvs.map (·.1) = ks.map kS → RDs K ρ H ds (kvs.map (·.2)) →
    (kvs.map fun kv => if kv.1 = kS k then (kv.1, v) else kv).map (·.1) = ks.map kS ∧ RDs K ρ H (setKs k d ks ds) ((kvs.map fun kv => if kv.1 = kS k then (kv.1, v) else kv).map (·.2))
  | [], ds, kvs, e, r => by
    cases kvs with
    | nil => exact ⟨rfl, by cases ds <;> exact r⟩
    | cons _ _ => simp at e
  | l :: ks, ds, [], e, r => by simp at e
  | l :: ks, ds, (k', u) :: kvs, e, r => by
    simp only [List.map_cons, List.cons.injEq] at e
    obtain ⟨e1, e2⟩ := e
    subst e1
    cases ds with
    | nil => cases (show _ = _ from r)
    | cons x ds =>
      obtain ⟨v', r', ev, r1, r2⟩ := r
      simp only [List.map_cons, List.cons.injEq] at ev
      obtain ⟨z1, z2⟩ := ev
      subst z1
      subst z2
      obtain ⟨q1, q2⟩ := setKs_is (k := k) rd e2 r2
      by_cases h : l = k
      · subst h
        refine ⟨by simp only [List.map_cons, if_true]; rw [q1], ?_⟩
        simp only [List.map_cons, if_true, setKs]
        exact RDs.cons rd q2
      · have h2 : ¬ kS l = kS k := fun z => h (kS_inj z)
        refine ⟨by simp only [List.map_cons, if_neg h2]; rw [q1], ?_⟩
        simp only [List.map_cons, if_neg h2, if_neg h, setKs]
        exact RDs.cons r1 q2
theorem putKs_is {k : DK} {d : D} {v : V} (rd : RD K ρ H d v) {ks : List DK} {ds : List D} {kvs : List (Key × V)} (e : kvs.map (·.1) = ks.map kS) (r : RDs K ρ H ds (kvs.map (·.2))) :
    (putK kvs (kS k) v).map (·.1) = (putKs k d ks ds).1.map kS ∧ RDs K ρ H (putKs k d ks ds).2 ((putK kvs (kS k) v).map (·.2)) := by
  have mem : (kvs.any fun kv => decide (kv.1 = kS k)) = true ↔ (ks.any fun l => decide (l = k)) = true := by
    rw [List.any_eq_true, List.any_eq_true]
    constructor
    · rintro ⟨kv, h1, h2⟩
      have h3 : kv.1 ∈ ks.map kS := by rw [← e]; exact List.mem_map_of_mem h1
      obtain ⟨l, hl, el⟩ := List.mem_map.mp h3
      have : l = k := kS_inj (by rw [el]; exact of_decide_eq_true h2)
      exact ⟨l, hl, decide_eq_true this⟩
    · rintro ⟨l, h, hlk⟩
      have hlk := of_decide_eq_true hlk
      subst hlk
      have h3 : kS l ∈ kvs.map (·.1) := by rw [e]; exact List.mem_map_of_mem h
      obtain ⟨kv, h1, h2⟩ := List.mem_map.mp h3
      exact ⟨kv, h1, by simpa using h2⟩
  unfold putK putKs
  by_cases h : (ks.any fun l => decide (l = k)) = true
  · rw [if_pos h, if_pos (mem.mpr h)]
    exact setKs_is rd e r
  · rw [if_neg h, if_neg (fun z => h (mem.mp z))]
    refine ⟨by rw [List.map_append, List.map_append, e]; rfl, ?_⟩
    rw [List.map_append]
    exact r.append (RDs.cons rd RDs.nil)
end
def dcL (n : Nat) (g : DG) (t : DT) (ek ev : DE) (σ : PEnv) : List D → GS → RE D
  | [], G => .ok (.ref n) G
  | d :: ds, G => match g d σ with
    | some σ2 => bindN (t σ2 G) fun b G1 => if b = true then bindN (ek σ2 G1) fun y G2 => bindN (ev σ2 G2) fun z G3 => match G3[n]?, keyD y with
        | some (.dic ks xs), some k => if ks.length < maxLine then dcL n g t ek ev σ ds (G3.set n (.dic (putKs k z ks xs).1 (putKs k z ks xs).2)) else .bad
        | _, _ => .bad
      else dcL n g t ek ev σ ds G1
    | none => .bad
def eDcN (it : DI) (g : CG) (t : DT) (ek ev : DE) (vs : List Nat) : DE := fun σ G => bindE (it σ G) fun ds G1 => dcL G1.length g.d t ek ev (wipeD σ vs) ds (G1 ++ [.dic [] []])
section
variable {X : Cx} {W : WX}
theorem dc_le {it : DI} {g : CG} {t : DT} {ek ev : DE} {vs : List Nat} (hv : ∀ i ∈ g.slots, i ∈ vs) (σ : L2.St) (H : Hp) (Q : VK) (h : tE X.K X.mg W (eDcN it g t ek ev vs) σ H Q) : tDc (tI X.K X.mg W it) (g.v X.K) (tT X.K X.mg WN t) (tE X.K X.mg WN ek) (tE X.K X.mg WN ev) vs σ H Q := by
  obtain ⟨ρ, σd, G, c, h⟩ := h
  refine ⟨ρ, σd, G, c, (EP'.bind h).mono fun _ H1 _ _ J _ _ _ _ ⟨ρ1, G1, ds, e1, s1, w1, _, h1⟩ => fun D hD => ?_⟩
  obtain ⟨ep, sp⟩ := s1.push (o := .dK []) (ob := .dic [] []) hD fun ex => ⟨[], upd_same, rfl, rfl⟩
  have c1 := (c.ext e1 s1).wiped vs
  have hDn : (ρ1 ++ [D])[G1.length]? = some D := by rw [← s1.len, List.getElem?_append_right (Nat.le_refl _)]; simp
  refine ⟨fun i m H => m = ds.length - i ∧ i ≤ ds.length ∧ ∃ ρ2 G2, Ext (ρ1 ++ [D]) (upd H1 D (.dK [])) ρ2 H ∧ RS X.K X.mg ρ2 G2 H ∧ EPD X.K X.mg (WA W σ) ρ2 H (dcL G1.length g.d t ek ev (wipeD σd vs) (ds.drop i) G2) Q,
    ⟨ds.length, by simp, Nat.zero_le _, ρ1 ++ [D], G1 ++ [.dic [] []], .refl _ _, sp, by rw [List.drop_zero]; exact EP'.deeper ep h1⟩, ?_⟩
  rintro i m H2 ⟨rfl, hi, ρ2, G2, e2, s2, h2⟩
  obtain ⟨wstop, wgo⟩ := w1 i ρ2 G2 H2 (ep.trans e2) s2
  by_cases hlt : i < ds.length
  · obtain ⟨go, yl⟩ := wgo ds[i] (by simp [hlt])
    rw [List.drop_eq_getElem_cons hlt] at h2
    simp only [dcL] at h2
    refine .inr ⟨go, fun H' => ∃ ρ2 G2, Ext (ρ1 ++ [D]) (upd H1 D (.dK [])) ρ2 H' ∧ RS X.K X.mg ρ2 G2 H' ∧ EPD X.K X.mg (WA W σ) ρ2 H' (dcL G1.length g.d t ek ev (wipeD σd vs) (ds.drop (i + 1)) G2) Q,
      fun H' q => ⟨ds.length - (i + 1), by omega, rfl, hlt, q⟩, fun x H' y => ?_⟩
    obtain ⟨e3, s3, r3⟩ := yl x H' y
    have c3 : Ct X.K X.mg ρ2 (wipeD σd vs) G2 (wipe σ vs) H' := c1.ext ((ep.trans e2).trans e3) s3
    cases q : g.d ds[i] (wipeD σd vs) with
    | none => simp only [q] at h2; exact h2.elim
    | some σ2 =>
      simp only [q] at h2
      refine cg_ok hv q c3 r3 fun σ' c4 hw => ⟨by rw [hw]; exact wipe_wipe, ρ2, σ2, G2, c4, (EP'.bindN' (EP'.deeper e3 h2)).mono fun _ H5 _ _ b _ _ _ _ ⟨ρ5, G5, k, e5, s5, d5, h5⟩ => ?_⟩
      subst d5
      cases k with
      | false => exact ⟨ρ5, G5, (e2.trans e3).trans e5, s5, h5⟩
      | true =>
        refine ⟨ρ5, σ2, G5, c4.ext e5 s5, (EP'.bindN' h5).mono fun _ H6 _ _ y _ _ _ _ ⟨ρ6, G6, dy, e6, s6, r6, h6⟩ => ?_⟩
        refine ⟨ρ6, σ2, G6, (c4.ext e5 s5).ext e6 s6, (EP'.bindN' h6).mono fun _ H7 _ _ z _ _ _ _ ⟨ρ7, G7, dz, e7, s7, r7, h7⟩ => ?_⟩
        have eall := (((e2.trans e3).trans e5).trans e6).trans e7
        split at h7
        · rename_i ks xs kk gq hk
          have hD7 := eall.get hDn
          obtain ⟨kvs, hH, ek', rv⟩ := s7.at_ _ D _ hD7 gq
          have ey := keyD_is hk (r6.ext e7)
          have el : kvs.length = ks.length := by have := congrArg List.length ek'; simpa using this
          split at h7
          · rename_i hl
            refine ⟨kvs, kS kk, ey, hH, by rw [el, ← maxLine_eq]; exact hl, ?_⟩
            obtain ⟨e8, s8⟩ := s7.write (o := .dK (putK kvs (kS kk) z)) (ob := .dic (putKs kk dz ks xs).1 (putKs kk dz ks xs).2) hD7 fun ex => by
              obtain ⟨p1, p2⟩ := putKs_is (k := kk) (r7.ext ex) ek' (rv.ext ex)
              exact ⟨_, upd_same, p1, p2⟩
            exact ⟨ρ7, _, eall.trans e8, s8, EP'.deeper e8 h7⟩
          · exact h7.elim
        · exact h7.elim
  · have ei : i = ds.length := by omega
    subst ei
    rw [List.drop_length] at h2
    exact .inl ⟨wstop (Nat.le_refl _), h2 ρ2 H2 _ (.refl _ _) s2 ⟨D, e2.get hDn, rfl⟩⟩
theorem le_dc {kx vx tg iter : Expr} {ifs : List Expr} {scope : Scope} {own : List (Str × Nat)} {pos : Pos} {it : DI} {g : CG} {t : DT} {ek ev : DE} (hc : X.calm = true) (hN : X.N.Nodup) (hi : PId X W tg iter it) (ok : BlkOk X.N X.env.scope scope own) (hv : ∀ i ∈ g.slots, i ∈ own.map (·.2))
    (hg : ∀ (s : Shared) (H : Hp) (C : Addr) (cl : List (Str × Addr)) (fp : List Addr), PG (X.blk s H scope (compEnvC scope cl C X.env) fp) tg (g.v X.K)) (ht : ∀ (s : Shared) (H : Hp) (C : Addr) (cl : List (Str × Addr)) (fp : List Addr), PTs (X.blk s H scope (compEnvC scope cl C X.env) fp) ifs (tT X.K X.mg WN t))
    (hk : ∀ (s : Shared) (H : Hp) (C : Addr) (cl : List (Str × Addr)) (fp : List Addr), PEd (X.blk s H scope (compEnvC scope cl C X.env) fp) WN kx ek) (he : ∀ (s : Shared) (H : Hp) (C : Addr) (cl : List (Str × Addr)) (fp : List Addr), PEd (X.blk s H scope (compEnvC scope cl C X.env) fp) WN vx ev)
    (hs : ∀ x, foldedSetIterable iter X.env x = pure x := by intro _; rfl) : PEd X W (.DictComp kx vx [⟨tg, iter, ifs, 0⟩] scope pos) (eDcN it g t ek ev (own.map (·.2))) :=
  (pe_dc hc hN hi ok hg ht hk he hs).le fun σ H Q h => dc_le hv σ H Q h
end
@[simp] theorem bIxA_tup (ds : List D) (y : D) (G : GS) : bIxA (.tup ds) y G = bIx (.tup ds) y G := rfl
@[simp] theorem bIxA_lst (ds : List D) (y : D) (G : GS) : bIxA (.lst ds) y G = bIx (.lst ds) y G := rfl
@[simp] theorem bIxA_str (cs : List Nat) (y : D) (G : GS) : bIxA (.str cs) y G = bIx (.str cs) y G := rfl
theorem bIxA_ref {n : Nat} {y : D} {G : GS} {ds : List D} (h : G[n]? = some (.lst ds)) : bIxA (.ref n) y G = bIx (.ref n) y G := by simp only [bIxA, h]
@[simp] theorem bIxA_scr (ns : List Int) (y : D) (G : GS) : bIxA (.scr ns) y G = bIx (.scr ns) y G := rfl
@[simp] theorem cInA_tup (b : Bool) (x : D) (ds : List D) (G : GS) : cInA b x (.tup ds) G = cIn b x (.tup ds) G := rfl
@[simp] theorem cInA_lst (b : Bool) (x : D) (ds : List D) (G : GS) : cInA b x (.lst ds) G = cIn b x (.lst ds) G := rfl
@[simp] theorem cInA_str (b : Bool) (x : D) (cs : List Nat) (G : GS) : cInA b x (.str cs) G = cIn b x (.str cs) G := rfl
theorem cInA_ref {b : Bool} {x : D} {n : Nat} {G : GS} {ds : List D} (h : G[n]? = some (.lst ds)) : cInA b x (.ref n) G = cIn b x (.ref n) G := by simp only [cInA, h]
end Dl
namespace Dl
open PySem L2
/-! ## written dicts -/
def pairsD : List (DE × DE) → PEnv → GS → RE (List (D × D))
  | [], _, G => .ok [] G
  | p :: r, σ, G => bindE (p.1 σ G) fun x G1 => bindE (p.2 σ G1) fun y G2 => bindE (pairsD r σ G2) fun ps G3 => .ok ((x, y) :: ps) G3
def RP (K : PySem.W.Frag) (ρ : List Addr) (H : Hp) (ps : List (D × D)) (vs : List (V × V)) : Prop := RDs K ρ H (ps.map (·.1)) (vs.map (·.1)) ∧ RDs K ρ H (ps.map (·.2)) (vs.map (·.2))
def keysD : List (D × D) → Option (List (DK × D))
  | [] => some []
  | p :: r => match keyD p.1, keysD r with
    | some k, some l => some ((k, p.2) :: l)
    | _, _ => none
def mergeD (ks : List DK) (ds : List D) : List (DK × D) → List DK × List D
  | [] => (ks, ds)
  | p :: r => mergeD (putKs p.1 p.2 ks ds).1 (putKs p.1 p.2 ks ds).2 r
section
variable {K : PySem.W.Frag} {ρ : List Addr} {H : Hp}
theorem keysD_is : ∀ {ps : List (D × D)} {kds : List (DK × D)} {vs : List (V × V)}, keysD ps = some kds → RP K ρ H ps vs → ∃ kvs : List (Key × V), vs = kvs.map (fun kv => (kV kv.1, kv.2)) ∧ kvs.map (·.1) = kds.map (fun p => kS p.1) ∧ RDs K ρ H (kds.map (·.2)) (kvs.map (·.2))
  | [], kds, vs, h, r => by
    simp only [keysD, Option.some.injEq] at h
    subst h
    cases vs with
    | nil => exact ⟨[], rfl, rfl, rfl⟩
    | cons v vs => have := r.1; cases (show _ = _ from this)
  | p :: ps, kds, vs, h, r => by
    unfold keysD at h
    split at h
    · rename_i k l hk hl
      simp only [Option.some.injEq] at h
      subst h
      cases vs with
      | nil => obtain ⟨_, _, e, _⟩ := r.1; simp at e
      | cons v vs =>
        obtain ⟨x1, y1, e1, r1, r2⟩ := r.1
        obtain ⟨x2, y2, e2, q1, q2⟩ := r.2
        simp only [List.map_cons, List.cons.injEq] at e1 e2
        obtain ⟨rfl, rfl⟩ := e1
        obtain ⟨rfl, rfl⟩ := e2
        obtain ⟨kvs, z1, z2, z3⟩ := keysD_is hl ⟨r2, q2⟩
        refine ⟨(kS k, v.2) :: kvs, ?_, by simp only [List.map_cons, z2], RDs.cons q1 z3⟩
        rw [List.map_cons, ← z1, ← keyD_is hk r1]
    · cases h
theorem mergeD_is : ∀ {kds : List (DK × D)} {mvs : List (Key × V)} {ks : List DK} {ds : List D} {kvs : List (Key × V)}, kvs.map (·.1) = ks.map kS → RDs K ρ H ds (kvs.map (·.2)) → mvs.map (·.1) = kds.map (fun p => kS p.1) → RDs K ρ H (kds.map (·.2)) (mvs.map (·.2)) →
    (mergeK kvs mvs).map (·.1) = (mergeD ks ds kds).1.map kS ∧ RDs K ρ H (mergeD ks ds kds).2 ((mergeK kvs mvs).map (·.2))
  | [], mvs, ks, ds, kvs, e, r, em, rm => by
    cases mvs with
    | nil => exact ⟨e, r⟩
    | cons _ _ => simp at em
  | p :: kds, [], ks, ds, kvs, e, r, em, rm => by simp at em
  | p :: kds, (k', v) :: mvs, ks, ds, kvs, e, r, em, rm => by
    simp only [List.map_cons, List.cons.injEq] at em
    obtain ⟨e1, e2⟩ := em
    subst e1
    obtain ⟨v', r', ev, r1, r2⟩ := rm
    simp only [List.map_cons, List.cons.injEq] at ev
    obtain ⟨z1, z2⟩ := ev
    subst z1
    subst z2
    obtain ⟨q1, q2⟩ := putKs_is (k := p.1) r1 e r
    exact mergeD_is (kds := kds) (mvs := mvs) (ks := (putKs p.1 p.2 ks ds).1) (ds := (putKs p.1 p.2 ks ds).2) (kvs := putK kvs (kS p.1) v) q1 q2 e2 r2
end
def eDisp (prs : List (DE × DE)) : DE := fun σ G => bindE (pairsD prs σ (G ++ [.dic [] []])) fun ps G2 => match G2[G.length]?, keysD ps with
  | some (.dic [] []), some kds => if kds.length ≤ 15 then .ok (.ref G.length) (G2.set G.length (.dic (mergeD [] [] kds).1 (mergeD [] [] kds).2)) else .bad
  | _, _ => .bad
section
variable {X : Cx} {W : WX}
def trP (X : Cx) (W : WX) (prs : List (DE × DE)) : List (TE × TE) := prs.map fun p => (tE X.K X.mg W p.1, tE X.K X.mg W p.2)
theorem pairs_le : ∀ (prs : List (DE × DE)) (σ : L2.St) (H : Hp) (Q : List (V × V) → Hp → Prop) (ρ : List Addr) (σd : PEnv) (G : GS), Ct X.K X.mg ρ σd G σ H → EP' X.K X.mg (RP X.K) (WA W σ) ρ H (pairsD prs σd G) Q → tPairs (trP X W prs) σ H Q
  | [], σ, H, Q, ρ, σd, G, c, h => h ρ H [] (.refl _ _) c.rs ⟨rfl, rfl⟩
  | p :: r, σ, H, Q, ρ, σd, G, c, h => by
    refine ⟨ρ, σd, G, c, (EP'.bind h).mono fun _ H1 _ _ x _ _ _ _ ⟨ρ1, G1, dx, e1, s1, r1, _, h1⟩ => ?_⟩
    refine ⟨ρ1, σd, G1, c.ext e1 s1, (EP'.bind h1).mono fun _ H2 _ _ y _ _ _ _ ⟨ρ2, G2, dy, e2, s2, r2, _, h2⟩ => ?_⟩
    refine pairs_le r σ H2 _ ρ2 σd G2 ((c.ext e1 s1).ext e2 s2) ((EP'.bind h2).mono fun _ H3 _ _ vs _ _ _ _ ⟨ρ3, G3, ps, e3, s3, r3, _, h3⟩ => ?_)
    exact h3 ρ3 H3 ((x, y) :: vs) (.refl _ _) s3 ⟨RDs.cons ((r1.ext e2).ext e3) r3.1, RDs.cons (r2.ext e3) r3.2⟩
theorem le_pp0 {pos : Pos} : PPs X pos [] [] (trP X W []) := pps_nil
theorem le_pp {pos : Pos} {k v : Expr} {ks : List (Option Expr)} {vs : List Expr} {dk dv : DE} {prs : List (DE × DE)} (hk : PEd X W k dk) (hv : PEd X W v dv) (hr : PPs X pos ks vs (trP X W prs)) : PPs X pos (some k :: ks) (v :: vs) (trP X W ((dk, dv) :: prs)) := pps_cons hk hv hr
theorem le_disp {pos : Pos} {keys : List (Option Expr)} {values : List Expr} {prs : List (DE × DE)} (h : PPs X pos keys values (trP X W prs)) (hall : keys.all (·.isSome) = true) (hl : keys.length = values.length) (h0 : keys ≠ []) (h15 : keys.length ≤ 15) : PEd X W (.Dict keys values pos) (eDisp prs) := by
  refine (pe_disp h hall hl h0 h15).le fun σ H Q ⟨ρ, σd, G, c, q⟩ p hp => ?_
  obtain ⟨ep, sp⟩ := c.rs.push (o := .dK []) (ob := .dic [] []) hp fun ex => ⟨[], upd_same, rfl, rfl⟩
  have hpn : (ρ ++ [p])[G.length]? = some p := by rw [← c.rs.len, List.getElem?_append_right (Nat.le_refl _)]; simp
  refine pairs_le prs σ _ _ _ σd _ (c.ext ep sp) ((EP'.bind (EP'.deeper ep q)).mono fun _ H2 _ _ vs _ _ _ _ ⟨ρ2, G2, ps, e2, s2, r2, _, h2⟩ => ?_)
  split at h2
  · rename_i kds hG hk
    obtain ⟨kv0, hH, ek, _⟩ := s2.at_ _ p _ (e2.get hpn) hG
    have : kv0 = [] := by cases kv0 with | nil => rfl | cons _ _ => simp at ek
    subst this
    obtain ⟨kvs, z1, z2, z3⟩ := keysD_is hk r2
    split at h2
    · rename_i h15'
      have el : kvs.length = kds.length := by have := congrArg List.length z2; simpa using this
      refine ⟨hH, kvs, z1, by omega, ?_⟩
      obtain ⟨e3, s3⟩ := s2.write (o := .dK (mergeK [] kvs)) (ob := .dic (mergeD [] [] kds).1 (mergeD [] [] kds).2) (e2.get hpn) fun ex => by
        obtain ⟨p1, p2⟩ := mergeD_is (K := X.K) (ρ := ρ2) (H := upd H2 p (.dK (mergeK [] kvs))) (ks := []) (ds := []) (kvs := []) rfl rfl z2 (z3.ext ex)
        exact ⟨_, upd_same, p1, p2⟩
      exact h2 ρ2 _ _ e3 s3 ⟨p, e2.get hpn, rfl⟩
    · exact h2.elim
  · exact h2.elim
/-! ## d[k] = v, xs[i] = v -/
theorem _root_.L2.PS.or {st : Stmt} {t1 t2 : TS} (h1 : PS X st t1) (h2 : PS X st t2) : PS X st (fun D σ H => t1 D σ H ∨ t2 D σ H) := ⟨fun pins s σ H D I q => q.elim (h1.run pins s σ H D I) (h2.run pins s σ H D I)⟩
def setIA (o i v : D) (σ : PEnv) (G : GS) : RSt := match o with
  | .ref n => match G[n]?, keyD i with
    | some (.dic ks ds), some k => if ks.length < maxLine then .nx σ (G.set n (.dic (putKs k v ks ds).1 (putKs k v ks ds).2)) else .bad
    | _, _ => setI o i v σ G
  | _ => .bad
def sSetIA (o i v : DE) : DS := fun σ G => bindS (v σ G) σ fun dv G1 => bindS (o σ G1) σ fun d_o G2 => bindS (i σ G2) σ fun di G3 => setIA d_o di dv σ G3
theorem le_setIA {o i e : Expr} {d_o di dv : DE} {pos pos' : Pos} (hu : X.A.units + 1 < cLine) (he : PEd X W e dv) (ho : PEd X W o d_o) (hi : PEd X W i di) (hl : PSd X W (.Assign [.Subscript o i pos'] e pos) (sSetI d_o di dv))
    (hs : swapsWith e (some (.Subscript o i pos')) pos.line X.env = pure false := by rfl) : PSd X W (.Assign [.Subscript o i pos'] e pos) (sSetIA d_o di dv) := by
  refine (hl.or (ps_dput hu ho hi he hs)).le fun Dn σ H ⟨ρ, σd, G, c, h⟩ => ?_
  by_cases z : SPst X.K X.mg W ρ H (sSetI d_o di dv σd G) Dn
  · exact .inl ⟨ρ, σd, G, c, z⟩
  · refine .inr ⟨ρ, σd, G, c, ?_⟩
    unfold sSetIA at h
    unfold sSetI at z
    cases q1 : dv σd G with
    | bad => rw [q1] at h; exact h.elim
    | exc cc fs G1 => rw [q1] at h z; exact absurd h z
    | ok y G1 =>
      rw [q1, bindS_ok] at h z
      intro ρ1 H1 vy e1 s1 r1
      have c1 := c.ext e1 s1
      refine ⟨ρ1, σd, G1, c1, ?_⟩
      cases q2 : d_o σd G1 with
      | bad => rw [q2] at h; exact h.elim
      | exc cc fs G2 => rw [q2] at h z; exact absurd h z
      | ok x G2 =>
        rw [q2, bindS_ok] at h z
        intro ρ2 H2 vx e2 s2 r2
        have c2 := c1.ext e2 s2
        refine ⟨ρ2, σd, G2, c2, ?_⟩
        cases q3 : di σd G2 with
        | bad => rw [q3] at h; exact h.elim
        | exc cc fs G3 => rw [q3] at h z; exact absurd h z
        | ok k G3 =>
          rw [q3, bindS_ok] at h z
          intro ρ3 H3 vk e3 s3 r3
          have c3 := c2.ext e3 s3
          unfold setIA at h
          split at h
          · rename_i n
            split at h
            · rename_i ks ds kk hG hk
              obtain ⟨p, hp, ev⟩ := r2
              obtain ⟨kvs, hH, ek, rv⟩ := s3.at_ n p _ (e3.get hp) hG
              have ey := keyD_is hk r3
              have el : kvs.length = ks.length := by have := congrArg List.length ek; simpa using this
              split at h
              · rename_i hl
                subst ev
                subst ey
                obtain ⟨e4, s4⟩ := s3.write (o := .dK (putK kvs (kS kk) vy)) (ob := .dic (putKs kk y ks ds).1 (putKs kk y ks ds).2) (e3.get hp) fun ex => by
                  obtain ⟨p1, p2⟩ := putKs_is (k := kk) (((r1.ext e2).ext e3).ext ex) ek (rv.ext ex)
                  exact ⟨_, upd_same, p1, p2⟩
                exact ⟨p, _, rfl, DPut.k hH (by rw [el, ← maxLine_eq]; exact hl), h _ _ _ (((e1.trans e2).trans e3).trans e4) (c3.ext e4 s4)⟩
              · exact h.elim
            · exact absurd h z
          · exact h.elim
end
end Dl
namespace Dl
open PySem PySem.Spec PyProof.Rows L2
/-! ## xs[::-1] of a list -/
def bRev (x y : D) (G : GS) : RE D := match y, lstOf G x with
  | .int i, some xs => if i = -1 then .ok (.lst xs.reverse) G else .bad
  | _, _ => .bad
section
variable {X : Cx} {W : WX}
theorem vals_rev {vs : List V} {us : List Value} (r : Vals vs us) : Vals vs.reverse us.reverse := by
  induction r with
  | nil => exact .nil
  | cons h t ih =>
    rw [List.reverse_cons, List.reverse_cons]
    exact ih.append (.cons h .nil)
theorem le_rev {e st : Expr} {d ds : DE} {p2 pos : Pos} (he : PEd X W e d) (hst : PEd X W st ds) : PEd X W (.Subscript e (.Slice none none (some st) p2) pos) (eBin bRev d ds) := by
  refine ⟨fun pins s σ H Q I h => ?_⟩
  obtain ⟨ρ, σd, G, ct, h⟩ := h
  have first := he.run pins s σ H _ I ⟨ρ, σd, G, ct, (EP'.bind h).mono fun _ _ _ _ _ _ _ _ _ z => z⟩
  refine Subscript_ (thn first fun v s1 ⟨x, H1, I1, rv, ρ1, G1, dx, e1, rs1, r1, _, h1⟩ => ?_)
  refine wpAny_Slice (thn ((po_none (X := X)).run pins s1 σ H1 (fun l H2 => l = none ∧ H2 = H1) I1 ⟨rfl, rfl⟩) fun vl s2 ⟨l, H2, I2, pl, el, eh⟩ => thn ((po_none (X := X)).run pins s2 σ H2 (fun l H3 => l = none ∧ H3 = H2) I2 ⟨rfl, rfl⟩) fun vu s3 ⟨u, H3, I3, pu, eu, eh2⟩ => ?_)
  subst eh2
  subst eh
  subst el
  subst eu
  have third : tPart (tE X.K X.mg W ds) σ H3 (fun i H4 => i = some (-1) ∧ ∃ ρ2 G2 xs, Ext ρ1 H3 ρ2 H4 ∧ RS X.K X.mg ρ2 G2 H4 ∧ lstOf G2 dx = some xs ∧ EPD X.K X.mg (WA W σ) ρ2 H4 (.ok (.lst xs.reverse) G2) Q) := by
    refine ⟨ρ1, σd, G1, ct.ext e1 rs1, (EP'.bind h1).mono fun _ H4 _ _ y _ _ _ _ ⟨ρ2, G2, dy, e2, s2, r2, _, h2⟩ => ?_⟩
    unfold bRev at h2
    split at h2
    · rename_i i xs hx zz
      split at h2
      · rename_i hi
        exact ⟨i, r2, by rw [hi], ρ2, G2, xs, e2, s2, hx, h2⟩
      · exact h2.elim
    · exact h2.elim
  refine thn ((po_some hst).run pins s3 σ H3 _ I3 third) fun vk s4 ⟨i, H4, I4, pk, ei, ρ2, G2, xs, e2, rs2, hx, h2⟩ => ?_
  subst ei
  have I5 : Inv X pins σ H4 { s4 with heap := s4.heap.push { cls := .type "slice", data := .fields #[vl, vu, vk] } } := I4.kept (t' := s4.toks) fun b ob q => Heap.get?_push_of_some _ q
  obtain ⟨a, vs, rfl, hH, rvs⟩ := lstOf_at rs2 hx (r1.ext e2)
  obtain rfl : v = Value.ref a := rv
  obtain ⟨its, r, ht, hz⟩ := I5.list (.of hH)
  have hlen := r.length
  have hg : wpAny (model X.prog X.w) X.A (getItem (.ref a) (.ref s4.heap.objs.size)) (EP X pins σ Q) X.xe { s4 with heap := s4.heap.push { cls := .type "slice", data := .fields #[vl, vu, vk] } } := by
    refine wpAny_getItem_list_slice ht.isList (Heap.IsSliceOf.new ..) pl pu pk (by simp) ?_ (by rw [List.size_toArray] <;> omega)
    rw [PySem.W.krv_pick]
    obtain ⟨ee, ss⟩ := rs2.lay (.lst vs.reverse) (I5.hok.fresh (Nat.le_refl _))
    refine ⟨.ref _, _, I5.laid (o := .lst vs.reverse) (fun b ob q => Heap.get?_push_of_some _ q) (Nat.le_refl _) ?_, rfl, h2 ρ2 _ _ ee ss ⟨_, _, rfl, ⟨upd_same, rs2.fresh (I5.hok.fresh (Nat.le_refl _))⟩, (rvs.ext ee).reverse⟩⟩
    exact ⟨by rw [List.length_reverse]; exact hz, _, 0, vals_rev r, Heap.get?_push_size _ rfl⟩
  show wpAny (model X.prog X.w) X.A (subscriptTail e (.Slice none none (some st) p2) (.ref a) (.ref s4.heap.objs.size)) (EP X pins σ Q) X.xe { s4 with heap := s4.heap.push { cls := .type "slice", data := .fields #[vl, vu, vk] } }
  exact tail_any (ops := [.ref a, .ref s4.heap.objs.size]) ht.isList.typeIs slot_list_getitem.lookup hg (by with_unfolding_all rfl)
def eNewD : DE := fun _ G => .ok (.ref G.length) (G ++ [.dic [] []])
theorem le_newD {pos : Pos} : PEd X W (.Dict [] [] pos) eNewD := by
  refine (pe_dnewK).le fun σ H Q ⟨ρ, σd, G, c, h⟩ p hp => ?_
  obtain ⟨ep, sp⟩ := c.rs.push (o := .dK []) (ob := .dic [] []) hp fun ex => ⟨[], upd_same, rfl, rfl⟩
  exact h _ _ _ ep sp ⟨p, by rw [← c.rs.len, List.getElem?_append_right (Nat.le_refl _)]; simp, rfl⟩
end
end Dl
namespace Dl
open PySem L2

section
variable {X : Cx} {W : WX}
/-! ## any, all of a list of truth values -/
def blsD : List D → Option (List Bool)
  | [] => some []
  | .bl i :: r => (blsD r).map (i :: ·)
  | _ => none
theorem blsD_is {K : PySem.W.Frag} {ρ : List Addr} {H : Hp} : ∀ {ds : List D} {ns : List Bool} {vs : List V}, blsD ds = some ns → RDs K ρ H ds vs → vs = ns.map V.bl
  | [], ns, vs, h, r => by cases (show _ = _ from r); simp only [blsD, Option.some.injEq] at h; subst h; rfl
  | d :: ds, ns, vs, h, r => by
    obtain ⟨v, r', rfl, r1, r2⟩ := r
    cases d with
    | bl i =>
      simp only [blsD, Option.map_eq_some_iff] at h
      obtain ⟨ns', h', rfl⟩ := h
      cases (show _ = _ from r1)
      rw [blsD_is h' r2]; rfl
    | _ => simp [blsD] at h
@[simp] theorem blsD_bls (ns : List Bool) : blsD (ns.map D.bl) = some ns := by
  induction ns with
  | nil => rfl
  | cons n ns ih => simp [blsD, ih]
def lstBls (G : GS) (d : D) : Option (List Bool) := (lstOf G d).bind blsD
theorem lstBls_at {ρ : List Addr} {G : GS} {H : Hp} {d : D} {v : V} {ns : List Bool} (s : RS X.K X.mg ρ G H) (h : lstBls G d = some ns) (r : RD X.K ρ H d v) : ∃ a, v = .ref a ∧ SqL X.K H a (ns.map V.bl) := by
  unfold lstBls at h
  rw [Option.bind_eq_some_iff] at h
  obtain ⟨ds, h1, h2⟩ := h
  obtain ⟨a, vs, rfl, hv, rv⟩ := lstOf_at s h1 r
  refine ⟨a, rfl, ?_⟩
  rw [← blsD_is h2 rv]
  exact .of hv
def fAny : List D → GS → RE D := fun xs G => match xs with
  | [d] => match lstBls G d with | some ns => .ok (.bl (ns.any id)) G | none => .bad
  | _ => .bad
theorem sv_any : SrvC X (rAny X.K) fAny := by
  intro W ρ G H xs dxs Q s r q
  unfold fAny at q
  split at q
  · obtain ⟨v, rfl, rv⟩ := rds1 r
    split at q
    · rename_i ns h
      obtain ⟨a, rfl, sq⟩ := lstBls_at s h rv
      exact ⟨a, ns, rfl, sq, now q s rfl⟩
    · exact q.elim
  · exact q.elim
def fAll : List D → GS → RE D := fun xs G => match xs with
  | [d] => match lstBls G d with | some ns => .ok (.bl (ns.all id)) G | none => .bad
  | _ => .bad
theorem sv_all : SrvC X (rAll X.K) fAll := by
  intro W ρ G H xs dxs Q s r q
  unfold fAll at q
  split at q
  · obtain ⟨v, rfl, rv⟩ := rds1 r
    split at q
    · rename_i ns h
      obtain ⟨a, rfl, sq⟩ := lstBls_at s h rv
      exact ⟨a, ns, rfl, sq, now q s rfl⟩
    · exact q.elim
  · exact q.elim

/-! ## xs.remove(k), k there -/
def remD (x y : D) (G : GS) : RE D := match x, y with
  | .ref n, .int k => match G[n]? with
    | some (.lst ds) => match intsD ds with
      | some ns => if k ∈ ns then .ok .non (G.set n (.lst ((ns.erase k).map D.int))) else .bad
      | none => .bad
    | _ => .bad
  | _, _ => .bad
def eRem (o e : DE) : DE := fun σ G => bindE (o σ G) fun x G1 => if isLst G1 x = true then bindE (e σ G1) fun y G2 => remD x y G2 else .bad
theorem le_rem {o e : Expr} {od ed : DE} {apos cpos : Pos} (hc : X.calm = true) (tk : Takes X W) (ho : PEd X W o od) (he : PEd X W e ed) (hbase : attributeBase o "remove" X.env (eval o X.env) = eval o X.env := by rfl)
    (hfew : ((backTo cpos (starEach [e] X.env)).all (fun x => !x.1) && (backToKw cpos (keywordEach [] X.env)).all (fun x => x.1.isSome)
      && decide (([e] : List Expr).length + ([] : List Keyword).length + (if ([] : List Keyword).isEmpty then 0 else 1) < 30)) = true := by rfl)
    (hline : (apos.endLine == cpos.line) = true := by rfl) (hs : starEach [e] X.env = (false, eval e X.env) :: starEach [] X.env := by rfl) (hplain : (backTo cpos (starEach [] X.env)).any (·.1) = false := by rfl) :
    PEd X W (.Call (.Attribute o "remove" apos) [e] [] cpos) (eRem od ed) := by
  refine (pe_remX hc tk ho he hbase hfew hline hs hplain).le fun σ H Q ⟨ρ, σd, G, c, h⟩ => ⟨ρ, σd, G, c, (EP'.bind h).mono fun _ H1 _ _ v1 _ _ _ _ ⟨ρ1, G1, a, e1, s1, d1, _, h1⟩ => ?_⟩
  by_cases hd : isLst G1 a = true
  · rw [if_pos hd] at h1
    refine ⟨knd_lst ρ1 G1 H1 a v1 s1 hd d1, ρ1, σd, G1, c.ext e1 s1, (EP'.bind h1).mono fun _ H2 _ _ v2 _ _ _ _ ⟨ρ2, G2, a2, e2, s2, d2, _, h2⟩ => ?_⟩
    have d1 := d1.ext e2
    cases a with
    | ref n =>
     cases a2 with
     | int k =>
      simp only [remD] at h2
      split at h2
      · rename_i ds g
        split at h2
        · rename_i ns hn
          obtain ⟨p, vs, rfl, hp, hv, rds⟩ := ref_at s2 g d1
          cases (show _ = _ from d2)
          have ev := intsD_is hn rds
          subst ev
          split at h2
          · rename_i hk
            refine ⟨p, ns, k, rfl, rfl, hv, fun _ => ?_, fun z => absurd hk z⟩
            obtain ⟨e, s'⟩ := s2.write (o := .lst ((ns.erase k).map V.int)) (ob := .lst ((ns.erase k).map D.int)) hp fun e => ⟨_, upd_same, RDs.ints⟩
            exact h2 _ _ _ e s' rfl
          · exact h2.elim
        · exact h2.elim
      · exact h2.elim
     | _ => exact h2.elim
    | _ => exact h2.elim
  · rw [if_neg hd] at h1; exact h1.elim

/-! ## d.get(k, x) -/
def dicOf (G : GS) : D → Option (List DK × List D)
  | .dic ks ds => some (ks, ds)
  | .ref n => match G[n]? with
    | some (.dic ks ds) => some (ks, ds)
    | _ => none
  | _ => none
theorem dicOf_at {ρ : List Addr} {G : GS} {H : Hp} {d : D} {v : V} {ks : List DK} {ds : List D} (s : RS X.K X.mg ρ G H) (h : dicOf G d = some (ks, ds)) (r : RD X.K ρ H d v) : ∃ a kvs, v = .ref a ∧ H a = some (.dK kvs) ∧ kvs.map (·.1) = ks.map kS ∧ RDs X.K ρ H ds (kvs.map (·.2)) := by
  cases d with
  | dic ks' ds' =>
    simp only [dicOf, Option.some.injEq, Prod.mk.injEq] at h
    obtain ⟨rfl, rfl⟩ := h
    obtain ⟨a, kvs, rfl, hH, hn, ek, rv⟩ := r
    exact ⟨a, kvs, rfl, hH, ek, rv⟩
  | ref n =>
    simp only [dicOf] at h
    split at h
    · rename_i ks' ds' g
      simp only [Option.some.injEq, Prod.mk.injEq] at h
      obtain ⟨rfl, rfl⟩ := h
      obtain ⟨p, hp, rfl⟩ := r
      obtain ⟨kvs, hH, ek, rv⟩ := s.at_ n p _ hp g
      exact ⟨p, kvs, rfl, hH, ek, rv⟩
    · cases h
  | _ => simp [dicOf] at h
def getD2 (x y z : D) (G : GS) : RE D := match dicOf G x, keyD y with
  | some (ks, ds), some k => .ok ((lookK k ks ds).getD z) G
  | _, _ => .bad
def eGet2 (o e f : DE) : DE := fun σ G => bindE (o σ G) fun x G1 => if (dicOf G1 x).isSome = true then bindE (e σ G1) fun y G2 => bindE (f σ G2) fun z G3 => getD2 x y z G3 else .bad
theorem le_get2 {o e f : Expr} {od ed fd : DE} {apos cpos : Pos} (hu : X.A.units + 1 < cLine) (ho : PEd X W o od) (he : PEd X W e ed) (hf : PEd X W f fd) (m : M2 X o "get" apos e f cpos) : PEd X W (.Call (.Attribute o "get" apos) [e, f] [] cpos) (eGet2 od ed fd) := by
  refine (pe_dget2 hu ho he hf m).le fun σ H Q ⟨ρ, σd, G, c, h⟩ => ⟨ρ, σd, G, c, (EP'.bind h).mono fun _ H1 _ _ v1 _ _ _ _ ⟨ρ1, G1, a, e1, s1, d1, _, h1⟩ => ?_⟩
  by_cases hd : (dicOf G1 a).isSome = true
  · rw [if_pos hd] at h1
    rw [Option.isSome_iff_exists] at hd
    obtain ⟨⟨ks, ds⟩, hd⟩ := hd
    obtain ⟨p, kvs, rfl, hH, ek, rv⟩ := dicOf_at s1 hd d1
    refine ⟨p, rfl, .inl ⟨kvs, .inl hH⟩, ρ1, σd, G1, c.ext e1 s1, (EP'.bind h1).mono fun _ H2 _ _ v2 _ _ _ _ ⟨ρ2, G2, a2, e2, s2, d2, _, h2⟩ => ?_⟩
    refine ⟨ρ2, σd, G2, (c.ext e1 s1).ext e2 s2, (EP'.bind h2).mono fun _ H3 _ _ v3 _ _ _ _ ⟨ρ3, G3, a3, e3, s3, d3, _, h3⟩ => ?_⟩
    have d1 := (d1.ext e2).ext e3
    have d2 := d2.ext e3
    unfold getD2 at h3
    split at h3
    · rename_i ks3 ds3 k q1 q2
      obtain ⟨p', kvs3, ep, hH3, ek3, rv3⟩ := dicOf_at s3 q1 d1
      cases ep
      have ey := keyD_is q2 d2
      subst ey
      have l := lookK_is (k := k) ek3 rv3
      refine ⟨valV kvs3 (kS k), DGet.k hH3, ?_⟩
      cases z : lookK k ks3 ds3 with
      | none => rw [z] at l h3; rw [l]; exact now h3 s3 d3
      | some d => rw [z] at l h3; obtain ⟨v, hv, rd⟩ := l; rw [hv]; exact now h3 s3 rd
    · exact h3.elim
  · rw [if_neg hd] at h1; exact h1.elim

/-! ## max(xs, default=z) -/
def rMaxDf (K : PySem.W.Frag) : List V → List V → Hp → VK → Prop := fun vs zs H Q => ∃ (a : Addr) (ns : List Int) (z : V), vs = [V.ref a] ∧ zs = [z] ∧ SqL K H a (ns.map V.int) ∧
  (ns = [] → Q z H) ∧ ∀ m, m ∈ ns → (∀ y ∈ ns, y ≤ m) → Q (.int m) H
theorem maxOf_spec : ∀ (xs : List Int) (x : Int), PySem.W.maxOf x xs ∈ x :: xs ∧ ∀ y ∈ x :: xs, y ≤ PySem.W.maxOf x xs
  | [], x => ⟨by simp [PySem.W.maxOf], fun y h => by simp at h; subst h; simp [PySem.W.maxOf]⟩
  | y :: ys, x => by
    have e : PySem.W.maxOf x (y :: ys) = PySem.W.maxOf (if PySem.W.DatumOrd.lt x y = true then y else x) ys := rfl
    have el : (PySem.W.DatumOrd.lt x y = true) ↔ x < y := by
      show decide (x < y) = true ↔ x < y
      exact decide_eq_true_iff
    rw [e]
    obtain ⟨h1, h2⟩ := maxOf_spec ys (if PySem.W.DatumOrd.lt x y = true then y else x)
    by_cases hx : x < y
    · rw [if_pos (el.mpr hx)] at h1 h2 ⊢
      refine ⟨List.mem_cons_of_mem _ h1, fun z hz => ?_⟩
      rcases List.mem_cons.mp hz with rfl | hz
      · have := h2 y List.mem_cons_self; omega
      · exact h2 z hz
    · rw [if_neg (fun z => hx (el.mp z))] at h1 h2 ⊢
      refine ⟨?_, fun z hz => ?_⟩
      · rcases List.mem_cons.mp h1 with h | h
        · rw [h]; exact List.mem_cons_self
        · exact List.mem_cons_of_mem _ (List.mem_cons_of_mem _ h)
      · rcases List.mem_cons.mp hz with rfl | hz
        · exact h2 _ List.mem_cons_self
        · rcases List.mem_cons.mp hz with rfl | hz
          · have := h2 x List.mem_cons_self; omega
          · exact h2 z (List.mem_cons_of_mem _ hz)
theorem holdAll_ints {h : Heap} : ∀ {its : List Value} {ns : List Int}, PyProof.Rows.IntsAre its ns → PySem.W.HoldAll h its ns
  | _, _, .nil => ⟨_, .nil⟩
  | _, _, .cons n t r => .cons (PySem.W.holds_int n t) (holdAll_ints r)
theorem cr_maxDf (hc : X.calm = true) (hu : X.A.units + 64 < cLine) : CallRK X (.builtin "max") [Str.ofString "default"] (rMaxDf X.K) := by
  intro pins s σ H vs zs us ws Q I r rz h
  obtain ⟨a, ns, z, rfl, rfl, hs, h0, h1⟩ := h
  obtain rfl := Vals.ref1 r
  obtain ⟨w1, rfl, e1⟩ := vals1 rz
  obtain ⟨its, rv, hl, _⟩ := I.list hs
  refine PySem.W.max_list_datum_default (I.ok.hd hc) hl.isList (xs := ns) (holdAll_ints (by simpa using rv.ints)) (by
    show X.A.units + 1 + 0 < cLine
    omega) (fun e h' tk hk => ⟨z, H, I.kept hk, e1, h0 e⟩) fun y ys i v h' tk e hi hv hk => ?_
  obtain ⟨t, rfl⟩ := PySem.W.int_of_holds hv
  obtain ⟨m1, m2⟩ := maxOf_spec ys y
  rw [← e] at m1 m2
  exact ⟨.int _, H, I.kept hk, ⟨_, rfl⟩, h1 _ m1 m2⟩
def fMaxDf (xs : List D) (z : D) (G : GS) : RE D := match xs with
  | [d] => match lstInts G d with
    | some [] => .ok z G
    | some (n :: ns) => .ok (.int (ns.foldl max n)) G
    | none => .bad
  | _ => .bad
def eAppK (f : List D → D → GS → RE D) (a : DA) (z : DE) : DE := fun σ G => bindE (a σ G) fun xs G1 => bindE (z σ G1) fun y G2 => f xs y G2
theorem pk_one {e : Expr} {te : TE} {nm : Option Str} {kpos : Pos} (ha : PE X e te) : PK X [⟨nm, e, kpos⟩] (tCons te tNil) := pk_cons ha pk_nil
theorem le_maxDf {p pos kpos : Pos} {e z : Expr} {d dz : DE} (hc : X.calm = true) (hu : X.A.units + 64 < cLine) (hg : Gl X "max") (hm : X.mg "max" = none) (hv : bootBuiltins "max" = some (.builtin "max")) (he : PAd X W [e] (aCons d aNil)) (hz : PEd X W z dz)
    (hh : backTo pos (starEach [e] X.env) = (false, eval e X.env) :: backTo pos (starEach [] X.env) := by rfl) (hpl : (backTo pos (starEach [e] X.env)).any (·.1) = false := by rfl)
    (hall : (backToKw pos (keywordEach [⟨some "default", z, kpos⟩] X.env)).all (·.1.isSome) = true := by rfl) (hnone : (backToKw pos (keywordEach [⟨some "default", z, kpos⟩] X.env)).any (·.1.isNone) = false := by rfl) (hks : (backToKw pos (keywordEach [⟨some "default", z, kpos⟩] X.env)).filterMap (·.1) = [Str.ofString "default"] := by rfl) :
    PEd X W (.Call (.Name "max" p) [e] [⟨some "default", z, kpos⟩] pos) (eAppK fMaxDf (aCons d aNil) dz) := by
  refine (pe_callBK (cr_maxDf hc hu) hg hm hv he (pk_one hz) (by decide) (by decide) hh hpl hall hnone hks).le fun σ H Q ⟨ρ, σd, G, c, h⟩ => ?_
  refine ⟨ρ, σd, G, c, (EP'.bind h).mono fun _ H1 _ _ v1 _ _ _ _ ⟨ρ1, G1, a, e1, s1, d1, _, h1⟩ => ?_⟩
  refine ⟨ρ1, σd, G1, c.ext e1 s1, (EP'.bind h1).mono fun _ H2 _ _ v2 _ _ _ _ ⟨ρ2, G2, a2, e2, s2, d2, _, h2⟩ => ?_⟩
  have d1 := d1.ext e2
  show rMaxDf X.K v1 [v2] H2 Q
  unfold fMaxDf at h2
  split at h2
  · obtain ⟨v, rfl, rv⟩ := rds1 d1
    split at h2
    · rename_i hn
      obtain ⟨p, rfl, sq⟩ := lstInts_at s2 hn rv
      exact ⟨p, [], v2, rfl, rfl, sq, fun _ => now h2 s2 d2, fun m hm => by simp at hm⟩
    · rename_i n ns hn
      obtain ⟨p, rfl, sq⟩ := lstInts_at s2 hn rv
      refine ⟨p, n :: ns, v2, rfl, rfl, sq, fun z => by simp at z, fun m hm hy => ?_⟩
      have : m = ns.foldl max n := by
        have k1 := hy _ (foldl_max_mem ns n)
        have k2 := foldl_max_le ns n m hm
        omega
      subst this
      exact now h2 s2 rfl
    · exact h2.elim
  · exact h2.elim

/-! ## for x in reversed(..) over what stands still -/
def iRevD (e : DE) : DI := fun σ G => bindE (e σ G) fun d G1 => match d with | .tup ds => .ok ds.reverse G1 | .lst ds => .ok ds.reverse G1 | _ => .bad
theorem rev_get {α : Type} {ds : List α} {i : Nat} {d : α} (h : ds.reverse[i]? = some d) : i < ds.length ∧ ds[ds.length - 1 - i]? = some d := by
  have hi : i < ds.length := by have := (List.getElem?_eq_some_iff.mp h).1; simpa using this
  exact ⟨hi, by rw [List.getElem?_reverse hi] at h; exact h⟩
theorem le_rvD {tg e : Expr} {d : DE} {p pos : Pos} (hg : Gl X "reversed") (hm : X.mg "reversed" = none) (he : PEd X W e d) (hs : starEach [e] X.env = (false, eval e X.env) :: starEach [] X.env := by rfl) : PId X W tg (.Call (.Name "reversed" p) [e] [] pos) (iRevD d) := by
  refine (RT.pi_revA hg hm he hs).le fun σ H R ⟨ρ, σd, G, c, h⟩ => ⟨ρ, σd, G, c, (EP'.bind h).mono fun _ H1 _ _ _ _ _ _ _ ⟨ρ1, G1, a, e1, s1, d1, _, h1⟩ => ?_⟩
  cases a with
  | tup ds =>
    obtain ⟨a, vs, ev, la, rv⟩ := d1
    refine ⟨a, vs, ev, .inr ⟨la.sq, h1 ρ1 H1 _ (.refl _ _) s1 fun i ρ' G' H' e s => ⟨fun hl => by rw [List.length_reverse, rv.length] at hl; exact hl, fun d hd => ?_⟩⟩⟩
    obtain ⟨hi, hd⟩ := rev_get hd
    obtain ⟨v, hv, rd⟩ := rv.get hd
    rw [rv.length] at hv
    refine ⟨⟨by rw [← rv.length]; exact hi, vs, v, (la.ext e).sq, hv⟩, fun x H'' ⟨eh, y⟩ => ?_⟩
    subst eh
    have := y vs (la.ext e).sq
    rw [hv] at this
    cases this
    exact ⟨.refl _ _, s, rd.ext e⟩
  | lst ds =>
    obtain ⟨a, vs, ev, la, rv⟩ := d1
    have sq : ∀ {ρ' H'}, Ext ρ1 H1 ρ' H' → SqL X.K H' a vs := fun e => .of (e.keep _ _ la.1 la.2)
    refine ⟨a, vs, ev, .inl ⟨.of la.1, h1 ρ1 H1 _ (.refl _ _) s1 fun i ρ' G' H' e s => ⟨fun hl => by rw [List.length_reverse, rv.length] at hl; exact hl, fun d hd => ?_⟩⟩⟩
    obtain ⟨hi, hd⟩ := rev_get hd
    obtain ⟨v, hv, rd⟩ := rv.get hd
    rw [rv.length] at hv
    refine ⟨⟨by rw [← rv.length]; exact hi, vs, v, sq e, hv⟩, fun x H'' ⟨eh, y⟩ => ?_⟩
    subst eh
    have := y vs (sq e)
    rw [hv] at this
    cases this
    exact ⟨.refl _ _, s, rd.ext e⟩
  | _ => exact h1.elim
/-! ## list(range(..)) -/
theorem rgB_ex : ∃ f : Int → Int → Bool, ∀ i j, f i j = (decide (-1000000 ≤ i) && decide (i ≤ 1000000) && decide (-1000000 ≤ j) && decide (j ≤ 1000000)) := ⟨_, fun _ _ => rfl⟩
noncomputable def rgB : Int → Int → Bool := Classical.choose rgB_ex
theorem rgB_eq (i j : Int) : rgB i j = (decide (-1000000 ≤ i) && decide (i ≤ 1000000) && decide (-1000000 ≤ j) && decide (j ≤ 1000000)) := Classical.choose_spec rgB_ex i j
theorem rgB_ok {i j : Int} (h : rgB i j = true) : RgOk i j := by
  simp only [rgB_eq, Bool.and_eq_true, decide_eq_true_eq] at h
  exact ⟨by omega, by omega, by omega, by omega, by omega⟩
theorem rds_rng {K : PySem.W.Frag} {ρ : List Addr} {H : Hp} {a b : Int} : RDs K ρ H (rngD a (b - a).toNat) (rgV a b) := by
  unfold rngD rgV
  generalize List.range (b - a).toNat = l
  induction l with
  | nil => rfl
  | cons x l ih => exact RDs.cons rfl ih
noncomputable def lstRg (new : Bool) (a b : Int) (G : GS) : RE D := if rgB a b = true then (if new = true then .ok (.ref G.length) (G ++ [.lst (rngD a (b - a).toNat)]) else .ok (.lst (rngD a (b - a).toNat)) G) else .bad
theorem lstRg_ok {W : XK} {new : Bool} {a b : Int} {ρ : List Addr} {G : GS} {H : Hp} {Q : VK} (s : RS X.K X.mg ρ G H) (h : EPD X.K X.mg W ρ H (lstRg new a b G) Q) : RgOk a b ∧ ∀ q, H q = none → Q (.ref q) (upd H q (.lst (rgV a b))) := by
  unfold lstRg at h
  by_cases hb : rgB a b = true
  · rw [if_pos hb] at h
    refine ⟨rgB_ok hb, fun q hq => ?_⟩
    cases new with
    | true => exact new_lst s rds_rng h hq
    | false => exact lay_lst h s rds_rng hq
  · rw [if_neg hb] at h; exact h.elim
noncomputable def eLR1 (new : Bool) (e : DE) : DE := fun σ G => bindE (e σ G) fun d G1 => match d with | .int b => lstRg new 0 b G1 | _ => .bad
noncomputable def eLR2 (new : Bool) (e f : DE) : DE := fun σ G => bindE (e σ G) fun d G1 => bindE (f σ G1) fun d2 G2 => match d, d2 with | .int a, .int b => lstRg new a b G2 | _, _ => .bad
theorem le_lr1 {new : Bool} {a : Expr} {da : DE} {p pos p' pos' : Pos} (hc : X.calm = true) (hg : Gl X "list") (hm : X.mg "list" = none) (hgr : Gl X "range") (hmr : X.mg "range" = none) (ha : PEd X W a da) (hs : starEach [a] X.env = (false, eval a X.env) :: starEach [] X.env := by rfl)
    (na : starEach [.Call (.Name "range" p') [a] [] pos'] X.env = (false, eval (.Call (.Name "range" p') [a] [] pos') X.env) :: starEach [] X.env := by rfl) : PEd X W (.Call (.Name "list" p) [.Call (.Name "range" p') [a] [] pos'] [] pos) (eLR1 new da) := by
  refine (pe_listRg hc hg hm (prg_1 hgr hmr ha hs) na).le fun σ H Q ⟨ρ, σd, G, c, h⟩ => ⟨ρ, σd, G, c, (EP'.bind h).mono fun _ H1 _ _ v1 _ _ _ _ ⟨ρ1, G1, a, e1, s1, d1, _, h1⟩ => ?_⟩
  cases a with
  | int n =>
    cases (show _ = _ from d1)
    exact ⟨n, rfl, lstRg_ok s1 h1⟩
  | _ => exact h1.elim
theorem le_lr2 {new : Bool} {a b : Expr} {da db : DE} {p pos p' pos' : Pos} (hc : X.calm = true) (hg : Gl X "list") (hm : X.mg "list" = none) (hgr : Gl X "range") (hmr : X.mg "range" = none) (ha : PEd X W a da) (hb : PEd X W b db) (hs : starEach [a, b] X.env = (false, eval a X.env) :: starEach [b] X.env := by rfl)
    (hs2 : starEach [b] X.env = (false, eval b X.env) :: starEach [] X.env := by rfl) (hp : (backTo pos' (starEach [b] X.env)).any (·.1) = false := by rfl)
    (na : starEach [.Call (.Name "range" p') [a, b] [] pos'] X.env = (false, eval (.Call (.Name "range" p') [a, b] [] pos') X.env) :: starEach [] X.env := by rfl) : PEd X W (.Call (.Name "list" p) [.Call (.Name "range" p') [a, b] [] pos'] [] pos) (eLR2 new da db) := by
  refine (pe_listRg hc hg hm (prg_2 hgr hmr ha hb hs hs2 hp) na).le fun σ H Q ⟨ρ, σd, G, c, h⟩ => ⟨ρ, σd, G, c, (EP'.bind h).mono fun _ H1 _ _ v1 _ _ _ _ ⟨ρ1, G1, a, e1, s1, d1, _, h1⟩ => ?_⟩
  refine ⟨ρ1, σd, G1, c.ext e1 s1, (EP'.bind h1).mono fun _ H2 _ _ v2 _ _ _ _ ⟨ρ2, G2, a2, e2, s2, d2, _, h2⟩ => ?_⟩
  cases a with
  | int n =>
    cases a2 with
    | int m =>
      cases (show _ = _ from d1); cases (show _ = _ from d2)
      exact ⟨n, m, rfl, rfl, lstRg_ok s2 h2⟩
    | _ => exact h2.elim
  | _ => exact h2.elim
end
end Dl
namespace Dl
open PySem L2

/-! ## what is asked of a piece -/
abbrev EK := Str → List (Str × D) → GS → Prop
def never : EK := fun _ _ _ => False
/-- ties, so that what is asked behind a piece is not looked at before its turn -/
structure TieE {α : Type} (E : EK) (Q : α → GS → Prop) : Type where
structure Tie1 {α : Type} (Q : α → Prop) : Type where
def wE {α : Type} (r : RE α) (E : EK) (Q : α → GS → Prop) (_u : TieE E Q := {}) : Prop := match r with | .ok a G => Q a G | .exc c fs G => E c fs G | .bad => False
structure Po where
  nx : PEnv → GS → Prop
  rt : D → GS → Prop
  bk : PEnv → GS → Prop
  ct : PEnv → GS → Prop
  ex : Str → List (Str × D) → PEnv → GS → Prop
structure TieP (P : Po) : Type where
def wS (r : RSt) (P : Po) (_u : TieP P := {}) : Prop := match r with | .nx σ G => P.nx σ G | .ret d G => P.rt d G | .brk σ G => P.bk σ G | .cont σ G => P.ct σ G | .exc c fs σ G => P.ex c fs σ G | .bad => False

theorem wE_ok {α : Type} {a : α} {G : GS} {E : EK} {Q : α → GS → Prop} : wE (.ok a G) E Q = Q a G := id rfl
theorem wE_exc {α : Type} {c fs} {G : GS} {E : EK} {Q : α → GS → Prop} : wE (.exc c fs G : RE α) E Q = E c fs G := id rfl
theorem wE_bad {α : Type} {E : EK} {Q : α → GS → Prop} : wE (.bad : RE α) E Q = False := id rfl
theorem wE_if {α : Type} {c : Prop} [Decidable c] {r : RE α} {E : EK} {Q : α → GS → Prop} : wE (if c then r else .bad) E Q = (c ∧ wE r E Q) := by
  by_cases h : c <;> simp [h, wE]
theorem wE_ite {α : Type} {c : Prop} [Decidable c] {r r' : RE α} {E : EK} {Q : α → GS → Prop} : wE (if c then r else r') E Q = if c then wE r E Q else wE r' E Q := by
  by_cases h : c <;> simp [h]
theorem wE_bind {α β : Type} {r : RE α} {f : α → GS → RE β} {E : EK} {Q : β → GS → Prop} : wE (bindE r f) E Q = wE r E fun a G => wE (f a G) E Q := by
  cases r <;> rfl
theorem wE_bindN {α β : Type} {r : RE α} {f : α → GS → RE β} {E : EK} {Q : β → GS → Prop} : wE (bindN r f) E Q = wE r never fun a G => wE (f a G) E Q := by
  cases r <;> rfl
theorem wE_ext {α : Type} {r : RE α} {E : EK} {Q Q' : α → GS → Prop} (h : ∀ a G, Q a G = Q' a G) : wE r E Q = wE r E Q' := by
  cases r with
  | ok a G => exact h a G
  | exc c fs G => rfl
  | bad => rfl
theorem wE_mono {α : Type} {r : RE α} {E E' : EK} {Q Q' : α → GS → Prop} (h : wE r E' Q') (k : ∀ a G, Q' a G → Q a G) (kE : ∀ c fs G, E' c fs G → E c fs G) : wE r E Q := by
  cases r with
  | ok a G => exact k a G h
  | exc c fs G => exact kE c fs G h
  | bad => exact h
/-- a spec without exceptions is used -/
theorem wE_use {α : Type} {r : RE α} {E : EK} {Q Q' : α → GS → Prop} (h : wE r never Q') (k : ∀ a G, Q' a G → Q a G) : wE r E Q := wE_mono h k fun _ _ _ z => z.elim
theorem wE_eq {α : Type} {r : RE α} {E : EK} {Q : α → GS → Prop} {a : α} {G : GS} (h : r = .ok a G) (k : Q a G) : wE r E Q := by rw [h]; exact k
theorem wE_get {α : Type} {r : RE α} {Q : α → GS → Prop} (h : wE r never Q) : ∃ a G, r = .ok a G ∧ Q a G := by
  cases r with
  | ok a G => exact ⟨a, G, rfl, h⟩
  | exc c fs G => exact h.elim
  | bad => exact h.elim
theorem wS_mono {r : RSt} {P P' : Po} (h : wS r P') (nx : ∀ σ G, P'.nx σ G → P.nx σ G) (rt : ∀ d G, P'.rt d G → P.rt d G) (bk : ∀ σ G, P'.bk σ G → P.bk σ G) (ct : ∀ σ G, P'.ct σ G → P.ct σ G) (ex : ∀ c fs σ G, P'.ex c fs σ G → P.ex c fs σ G) : wS r P := by
  cases r with
  | nx σ G => exact nx σ G h
  | ret d G => exact rt d G h
  | brk σ G => exact bk σ G h
  | cont σ G => exact ct σ G h
  | exc c fs σ G => exact ex c fs σ G h
  | bad => exact h

/-! ## statements -/
section
variable {σ : PEnv} {G : GS} {P : Po}
theorem wS_nil : wS (sNil σ G) P = P.nx σ G := id rfl
theorem wS_seq {a b : DS} : wS (sSeq a b σ G) P = wS (a σ G) ⟨fun σ G => wS (b σ G) P, P.rt, P.bk, P.ct, P.ex⟩ := by
  unfold sSeq seqR
  cases a σ G <;> rfl
theorem wS_bind {α : Type} {r : RE α} {σ' : PEnv} {f : α → GS → RSt} : wS (bindS r σ' f) P = wE r (fun c fs G1 => P.ex c fs σ' G1) fun a G1 => wS (f a G1) P := by
  cases r <;> rfl
theorem wS_asg {i : Nat} {e : DE} : wS (sAsg i e σ G) P = wE (e σ G) (fun c fs G1 => P.ex c fs σ G1) fun d G1 => P.nx (σ.set i (some d)) G1 := by unfold sAsg; rw [wS_bind]; rfl
theorem wS_exp {e : DE} : wS (sExp e σ G) P = wE (e σ G) (fun c fs G1 => P.ex c fs σ G1) fun _ G1 => P.nx σ G1 := by unfold sExp; rw [wS_bind]; rfl
theorem wS_ret {e : DE} : wS (sRet e σ G) P = wE (e σ G) (fun c fs G1 => P.ex c fs σ G1) fun d G1 => P.rt d G1 := by unfold sRet; rw [wS_bind]; rfl
theorem wS_retN : wS (sRetN σ G) P = P.rt .non G := id rfl
theorem wS_brk : wS (sBrk σ G) P = P.bk σ G := id rfl
theorem wS_cont : wS (sCont σ G) P = P.ct σ G := id rfl
theorem wS_if {c : DT} {a b : DS} : wS (sIf c a b σ G) P = wE (c σ G) (fun c fs G1 => P.ex c fs σ G1) fun k G1 => if k = true then wS (a σ G1) P else wS (b σ G1) P := by
  unfold sIf; rw [wS_bind]
  refine wE_ext fun k G1 => ?_
  cases k <;> rfl
theorem wS_aug {i : Nat} {f : D → D → GS → RE D} {e : DE} : wS (sAug i f e σ G) P = wE (eVar i σ G) (fun c fs G1 => P.ex c fs σ G1) fun x _ => wE (e σ G) (fun c fs G1 => P.ex c fs σ G1) fun y G1 => wE (f x y G1) (fun c fs G1 => P.ex c fs σ G1) fun z G2 => P.nx (σ.set i (some z)) G2 := by
  unfold sAug; (repeat (first | rfl | rw [wS_bind] | rw [wE_bind] | rw [wE_if] | rw [wE_ite] | rw [wE_ok] | refine wE_ext fun _ _ => ?_))
def asgW (o : Option PEnv) (k : PEnv → Prop) (_u : Tie1 k := {}) : Prop := match o with | some σ => k σ | none => False
theorem asgW_some {k : PEnv → Prop} : asgW (some σ) k = k σ := id rfl
theorem wS_asgG {g : DG} {e : DE} : wS (sAsgG g e σ G) P = wE (e σ G) (fun c fs G1 => P.ex c fs σ G1) fun d G1 => asgW (g d σ) fun σ' => P.nx σ' G1 := by
  unfold sAsgG; rw [wS_bind]
  refine wE_ext fun d G1 => ?_
  unfold asgR asgW
  cases g d σ <;> rfl
theorem wS_setI {o i v : DE} : wS (sSetI o i v σ G) P = wE (v σ G) (fun c fs G1 => P.ex c fs σ G1) fun dv G1 => wE (o σ G1) (fun c fs G1 => P.ex c fs σ G1) fun d_o G2 => wE (i σ G2) (fun c fs G1 => P.ex c fs σ G1) fun di G3 => wS (setI d_o di dv σ G3) P := by
  unfold sSetI; (repeat (first | rfl | rw [wS_bind] | rw [wE_bind] | rw [wE_if] | rw [wE_ite] | rw [wE_ok] | refine wE_ext fun _ _ => ?_))
theorem wS_setIA {o i v : DE} : wS (sSetIA o i v σ G) P = wE (v σ G) (fun c fs G1 => P.ex c fs σ G1) fun dv G1 => wE (o σ G1) (fun c fs G1 => P.ex c fs σ G1) fun d_o G2 => wE (i σ G2) (fun c fs G1 => P.ex c fs σ G1) fun di G3 => wS (setIA d_o di dv σ G3) P := by
  unfold sSetIA; (repeat (first | rfl | rw [wS_bind] | rw [wE_bind] | rw [wE_if] | rw [wE_ite] | rw [wE_ok] | refine wE_ext fun _ _ => ?_))
theorem wS_fldD {al : List Str} {f : Str} {o v : DE} : wS (sFldD al f o v σ G) P = wE (v σ G) (fun c fs G1 => P.ex c fs σ G1) fun y G1 => wE (o σ G1) (fun c fs G1 => P.ex c fs σ G1) fun x G2 => wS (setF al f x y σ G2) P := by
  unfold sFldD; (repeat (first | rfl | rw [wS_bind] | rw [wE_bind] | rw [wE_if] | rw [wE_ite] | rw [wE_ok] | refine wE_ext fun _ _ => ?_))
theorem wS_raise {c : Str} {names : List Str} {a : DA} : wS (sRaise c names a σ G) P = wE (a σ G) (fun c fs G1 => P.ex c fs σ G1) fun xs G1 => (decide (xs.length = names.length) && decide (xs.length ≤ 900)) = true ∧ P.ex c (excFs names xs) σ G1 := by
  unfold sRaise; rw [wS_bind]
  refine wE_ext fun xs G1 => ?_
  by_cases h : (decide (xs.length = names.length) && decide (xs.length ≤ 900)) = true
  · rw [if_pos h]; simp [h, wS]
  · rw [if_neg h]; simp [h, wS]
theorem wS_for {g : DG} {it : DI} {b : DS} : wS (sFor g it b σ G) P = wE (it σ G) (fun c fs G1 => P.ex c fs σ G1) fun ds G1 => wS (forL g b ds σ G1) P := by unfold sFor; rw [wS_bind]
theorem wS_forA {g : DG} {e : DE} {b : DS} : wS (sForA g e b σ G) P = wE (e σ G) (fun c fs G1 => P.ex c fs σ G1) fun d G1 => wS (forA g b d σ G1) P := by unfold sForA; rw [wS_bind]
theorem forA_lst {g : DG} {b : DS} {ds : List D} : forA g b (.lst ds) σ G = forL g b ds σ G := id rfl
theorem forA_tup {g : DG} {b : DS} {ds : List D} : forA g b (.tup ds) σ G = forL g b ds σ G := id rfl
theorem forA_str {g : DG} {b : DS} {ds : List Nat} : forA g b (.str ds) σ G = forL g b (chars ds) σ G := id rfl
theorem wS_st {st : RSt} {st' : RSt} (h : st = st') : wS st P = wS st' P := by rw [h]
/-- for, by an invariant -/
theorem wp_for' {g : DG} {b : DS} (Inv : Nat → PEnv → GS → Prop) : ∀ (ds : List D) (i : Nat) (σ : PEnv) (G : GS), Inv i σ G →
    (∀ (j : Nat) (d : D) (σ : PEnv) (G : GS), ds[j]? = some d → Inv (i + j) σ G → asgW (g d σ) fun σ1 => wS (b σ1 G) ⟨Inv (i + j + 1), P.rt, P.nx, Inv (i + j + 1), P.ex⟩) →
    (∀ σ G, Inv (i + ds.length) σ G → P.nx σ G) → wS (forL g b ds σ G) P
  | [], i, σ, G, h0, _, fin => fin σ G h0
  | d :: ds, i, σ, G, h0, st, fin => by
    have h := st 0 d σ G rfl h0
    unfold asgW at h
    simp only [forL]
    cases q : g d σ with
    | none => rw [q] at h; exact h.elim
    | some σ1 =>
      rw [q] at h
      simp only at h ⊢
      have go : ∀ σ' G', Inv (i + 0 + 1) σ' G' → wS (forL g b ds σ' G') P := fun σ' G' hi =>
        wp_for' Inv ds (i + 1) σ' G' hi (fun j d σ G hd hi => by
          have := st (j + 1) d σ G (by simpa using hd) (by rw [show i + (j + 1) = i + 1 + j by omega]; exact hi)
          rw [show i + (j + 1) + 1 = i + 1 + j + 1 by omega] at this
          exact this) fun σ G hi => fin σ G (by rw [List.length_cons, show i + (ds.length + 1) = i + 1 + ds.length by omega]; exact hi)
      unfold wS at h
      cases e : b σ1 G with
      | nx σ' G' => rw [e] at h; exact go σ' G' h
      | cont σ' G' => rw [e] at h; exact go σ' G' h
      | brk σ' G' => rw [e] at h; exact h
      | ret d G' => rw [e] at h; exact h
      | exc c fs σ' G' => rw [e] at h; exact h
      | bad => rw [e] at h; exact h.elim
theorem wp_for {g : DG} {b : DS} {ds : List D} (Inv : Nat → PEnv → GS → Prop) (h0 : Inv 0 σ G)
    (st : ∀ (j : Nat) (d : D) (σ : PEnv) (G : GS), ds[j]? = some d → Inv j σ G → asgW (g d σ) fun σ1 => wS (b σ1 G) ⟨Inv (j + 1), P.rt, P.nx, Inv (j + 1), P.ex⟩)
    (fin : ∀ σ G, Inv ds.length σ G → P.nx σ G) : wS (forL g b ds σ G) P :=
  wp_for' Inv ds 0 σ G h0 (fun j d σ G hd hi => by
    have := st j d σ G hd (by rw [Nat.zero_add] at hi; exact hi)
    rw [Nat.zero_add]
    exact this) fun σ G hi => fin σ G (by rw [Nat.zero_add] at hi; exact hi)
theorem wp_rng {g : DG} {b : DS} {n : Nat} (Inv : Nat → PEnv → GS → Prop) (h0 : Inv 0 σ G)
    (st : ∀ (j : Nat) (σ : PEnv) (G : GS), j < n → Inv j σ G → asgW (g (.int (j : Int)) σ) fun σ1 => wS (b σ1 G) ⟨Inv (j + 1), P.rt, P.nx, Inv (j + 1), P.ex⟩)
    (fin : ∀ σ G, Inv n σ G → P.nx σ G) : wS (forL g b (rngD 0 n) σ G) P :=
  wp_for Inv h0 (fun j d σ G hd hi => by
    obtain ⟨hj, e⟩ := rngD_get hd
    rw [Int.zero_add] at e
    subst e
    exact st j σ G hj hi) fun σ G hi => fin σ G (by rw [rngD_len] at hi; exact hi)
/-- while, by an invariant and a measure -/
theorem wp_while {c : DT} {b : DS} (Inv : Nat → PEnv → GS → Prop) : ∀ (n m : Nat) (σ : PEnv) (G : GS), m < n → Inv m σ G →
    (∀ m σ G, Inv m σ G → wE (c σ G) (fun c fs G1 => P.ex c fs σ G1) fun k G1 => if k = true then wS (b σ G1) ⟨fun σ' G' => ∃ m', m' < m ∧ Inv m' σ' G', P.rt, P.nx, fun σ' G' => ∃ m', m' < m ∧ Inv m' σ' G', P.ex⟩ else P.nx σ G1) →
    wS (sWhile n c b σ G) P
  | 0, m, σ, G, h, _, _ => absurd h (Nat.not_lt_zero _)
  | n + 1, m, σ, G, h, hi, st => by
    have q := st m σ G hi
    simp only [sWhile, wS_bind]
    refine wE_mono q (fun k G1 h => ?_) fun _ _ _ z => z
    cases k with
    | false => exact h
    | true =>
      simp only [if_true] at h ⊢
      have go : ∀ σ' G', (∃ m', m' < m ∧ Inv m' σ' G') → wS (sWhile n c b σ' G') P := fun σ' G' ⟨m', hm, hi'⟩ => wp_while Inv n m' σ' G' (by omega) hi' st
      unfold wS at h
      cases e : b σ G1 with
      | nx σ' G' => rw [e] at h; exact go σ' G' h
      | cont σ' G' => rw [e] at h; exact go σ' G' h
      | brk σ' G' => rw [e] at h; exact h
      | ret d G' => rw [e] at h; exact h
      | exc c fs σ' G' => rw [e] at h; exact h
      | bad => rw [e] at h; exact h.elim
end

/-! ## expressions -/
section
variable {σ : PEnv} {G : GS} {E : EK} {Q : D → GS → Prop}
def getW (o : Option (Option D)) (k : D → Prop) (_u : Tie1 k := {}) : Prop := match o with | some (some d) => k d | _ => False
theorem getW_some {d : D} {k : D → Prop} : getW (some (some d)) k = k d := id rfl
theorem wE_var {i : Nat} : wE (eVar i σ G) E Q = getW σ[i]? fun d => Q d G := by
  unfold eVar getW
  cases σ[i]? with
  | none => rfl
  | some o => cases o <;> rfl
theorem wE_cst {d : D} : wE (eCst d σ G) E Q = Q d G := id rfl
theorem wE_bin {f : D → D → GS → RE D} {a b : DE} : wE (eBin f a b σ G) E Q = wE (a σ G) E fun x G1 => wE (b σ G1) E fun y G2 => wE (f x y G2) E Q := by unfold eBin; (repeat (first | rfl | rw [wS_bind] | rw [wE_bind] | rw [wE_if] | rw [wE_ite] | rw [wE_ok] | refine wE_ext fun _ _ => ?_))
theorem wE_un {f : D → GS → RE D} {a : DE} : wE (eUn f a σ G) E Q = wE (a σ G) E fun x G1 => wE (f x G1) E Q := by unfold eUn; (repeat (first | rfl | rw [wS_bind] | rw [wE_bind] | rw [wE_if] | rw [wE_ite] | rw [wE_ok] | refine wE_ext fun _ _ => ?_))
theorem wE_andV {a b : DE} : wE (eAnd a b σ G) E Q = wE (a σ G) E fun x G1 => wE (truth x G1) E fun k G2 => if k = true then wE (b σ G2) E Q else Q (.bl false) G2 := by
  unfold eAnd; (repeat (first | rfl | rw [wS_bind] | rw [wE_bind] | rw [wE_if] | rw [wE_ite] | rw [wE_ok] | refine wE_ext fun _ _ => ?_))
theorem wE_orV {a b : DE} : wE (eOr a b σ G) E Q = wE (a σ G) E fun x G1 => wE (truth x G1) E fun k G2 => if k = true then Q (.bl true) G2 else wE (b σ G2) E Q := by
  unfold eOr; (repeat (first | rfl | rw [wS_bind] | rw [wE_bind] | rw [wE_if] | rw [wE_ite] | rw [wE_ok] | refine wE_ext fun _ _ => ?_))
theorem wE_notV {a : DE} : wE (eNot a σ G) E Q = wE (a σ G) E fun x G1 => wE (truth x G1) E fun k G2 => Q (.bl (!k)) G2 := by
  unfold eNot; (repeat (first | rfl | rw [wS_bind] | rw [wE_bind] | rw [wE_if] | rw [wE_ite] | rw [wE_ok] | refine wE_ext fun _ _ => ?_))
theorem wE_ifx {c : DT} {a b : DE} : wE (eIf c a b σ G) E Q = wE (c σ G) E fun k G1 => if k = true then wE (a σ G1) E Q else wE (b σ G1) E Q := by
  unfold eIf; (repeat (first | rfl | rw [wS_bind] | rw [wE_bind] | rw [wE_if] | rw [wE_ite] | rw [wE_ok] | refine wE_ext fun _ _ => ?_))
theorem wE_call {F : DF} {a : DA} : wE (eCall F a σ G) E Q = wE (a σ G) E fun xs G1 => wE (F xs G1) E Q := by unfold eCall; (repeat (first | rfl | rw [wS_bind] | rw [wE_bind] | rw [wE_if] | rw [wE_ite] | rw [wE_ok] | refine wE_ext fun _ _ => ?_))
theorem wE_app {f : List D → GS → RE D} {a : DA} : wE (eApp f a σ G) E Q = wE (a σ G) E fun xs G1 => wE (f xs G1) E Q := by unfold eApp; (repeat (first | rfl | rw [wS_bind] | rw [wE_bind] | rw [wE_if] | rw [wE_ite] | rw [wE_ok] | refine wE_ext fun _ _ => ?_))
theorem wE_appK {f : List D → D → GS → RE D} {a : DA} {z : DE} : wE (eAppK f a z σ G) E Q = wE (a σ G) E fun xs G1 => wE (z σ G1) E fun y G2 => wE (f xs y G2) E Q := by unfold eAppK; (repeat (first | rfl | rw [wS_bind] | rw [wE_bind] | rw [wE_if] | rw [wE_ite] | rw [wE_ok] | refine wE_ext fun _ _ => ?_))
theorem wE_tup {a : DA} : wE (eTup a σ G) E Q = wE (a σ G) E fun xs G1 => xs.length ≤ maxLine ∧ Q (.tup xs) G1 := by unfold eTup; (repeat (first | rfl | rw [wS_bind] | rw [wE_bind] | rw [wE_if] | rw [wE_ite] | rw [wE_ok] | refine wE_ext fun _ _ => ?_))
theorem wE_lst {a : DA} : wE (eLst a σ G) E Q = wE (a σ G) E fun xs G1 => xs.length ≤ maxLine ∧ Q (.lst xs) G1 := by unfold eLst; (repeat (first | rfl | rw [wS_bind] | rw [wE_bind] | rw [wE_if] | rw [wE_ite] | rw [wE_ok] | refine wE_ext fun _ _ => ?_))
theorem wE_new {a : DA} : wE (eNew a σ G) E Q = wE (a σ G) E fun xs G1 => xs.length ≤ maxLine ∧ Q (.ref G1.length) (G1 ++ [.lst xs]) := by unfold eNew; (repeat (first | rfl | rw [wS_bind] | rw [wE_bind] | rw [wE_if] | rw [wE_ite] | rw [wE_ok] | refine wE_ext fun _ _ => ?_))
theorem wE_newD : wE (eNewD σ G) E Q = Q (.ref G.length) (G ++ [.dic [] []]) := id rfl
theorem wE_mt {kd : GS → D → Bool} {f : D → List D → GS → RE D} {o : DE} {a : DA} : wE (eMt kd f o a σ G) E Q = wE (o σ G) E fun x G1 => kd G1 x = true ∧ wE (a σ G1) E fun xs G2 => wE (f x xs G2) E Q := by unfold eMt; (repeat (first | rfl | rw [wS_bind] | rw [wE_bind] | rw [wE_if] | rw [wE_ite] | rw [wE_ok] | refine wE_ext fun _ _ => ?_))
theorem wE_rem {o e : DE} : wE (eRem o e σ G) E Q = wE (o σ G) E fun x G1 => isLst G1 x = true ∧ wE (e σ G1) E fun y G2 => wE (remD x y G2) E Q := by unfold eRem; (repeat (first | rfl | rw [wS_bind] | rw [wE_bind] | rw [wE_if] | rw [wE_ite] | rw [wE_ok] | refine wE_ext fun _ _ => ?_))
theorem wE_get2 {o e f : DE} : wE (eGet2 o e f σ G) E Q = wE (o σ G) E fun x G1 => (dicOf G1 x).isSome = true ∧ wE (e σ G1) E fun y G2 => wE (f σ G2) E fun z G3 => wE (getD2 x y z G3) E Q := by unfold eGet2; (repeat (first | rfl | rw [wS_bind] | rw [wE_bind] | rw [wE_if] | rw [wE_ite] | rw [wE_ok] | refine wE_ext fun _ _ => ?_ | refine congrArg (And _) ?_))
theorem wE_sl {e : DE} {lo hi : DO} : wE (eSl e lo hi σ G) E Q = wE (e σ G) E fun x G1 => wE (lo σ G1) E fun l G2 => wE (hi σ G2) E fun h G3 => wE (bSl x l h G3) E Q := by unfold eSl; (repeat (first | rfl | rw [wS_bind] | rw [wE_bind] | rw [wE_if] | rw [wE_ite] | rw [wE_ok] | refine wE_ext fun _ _ => ?_))
theorem wE_oNone {Q : Option Int → GS → Prop} : wE (oNone σ G) E Q = Q none G := id rfl
def intW (d : D) (k : Int → Prop) (_u : Tie1 k := {}) : Prop := match d with | .int i => k i | _ => False
theorem intW_int {i : Int} {k : Int → Prop} : intW (.int i) k = k i := id rfl
theorem wE_oSome {e : DE} {Q : Option Int → GS → Prop} : wE (oSome e σ G) E Q = wE (e σ G) E fun d G1 => intW d fun i => Q (some i) G1 := by
  unfold oSome; rw [wE_bind]
  refine wE_ext fun d G1 => ?_
  cases d <;> rfl
theorem wE_aNil {Q : List D → GS → Prop} : wE (aNil σ G) E Q = Q [] G := id rfl
theorem wE_aCons {e : DE} {r : DA} {Q : List D → GS → Prop} : wE (aCons e r σ G) E Q = wE (e σ G) E fun x G1 => wE (r σ G1) E fun xs G2 => Q (x :: xs) G2 := by unfold aCons; (repeat (first | rfl | rw [wS_bind] | rw [wE_bind] | rw [wE_if] | rw [wE_ite] | rw [wE_ok] | refine wE_ext fun _ _ => ?_))
def blW (d : D) (k : Bool → Prop) (_u : Tie1 k := {}) : Prop := match d with | .bl i => k i | _ => False
theorem blW_bl {i : Bool} {k : Bool → Prop} : blW (.bl i) k = k i := id rfl
theorem wE_chain {f f' : D → D → GS → RE D} {a b c : DE} : wE (eChain f f' a b c σ G) E Q = wE (a σ G) E fun x G1 => wE (b σ G1) E fun y G2 => wE (f x y G2) E fun z G3 => blW z fun k => if k = true then wE (c σ G3) E fun w G4 => wE (f' y w G4) E Q else Q (.bl false) G3 := by
  unfold eChain; rw [wE_bind]
  refine wE_ext fun x G1 => ?_
  rw [wE_bind]
  refine wE_ext fun y G2 => ?_
  rw [wE_bind]
  refine wE_ext fun z G3 => ?_
  cases z with
  | bl k =>
    cases k with
    | true => show wE (bindE (c σ G3) fun w G4 => f' y w G4) E Q = _; rw [wE_bind]; rfl
    | false => rfl
  | _ => rfl
theorem wE_dT {e : DE} {Q : Bool → GS → Prop} : wE (dT e σ G) E Q = wE (e σ G) E fun d G1 => wE (truth d G1) E Q := by unfold dT; (repeat (first | rfl | rw [wS_bind] | rw [wE_bind] | rw [wE_if] | rw [wE_ite] | rw [wE_ok] | refine wE_ext fun _ _ => ?_))
theorem wE_dTA {e : DE} {Q : Bool → GS → Prop} : wE (dTA e σ G) E Q = wE (e σ G) E fun d G1 => wE (truthA d G1) E Q := by unfold dTA; (repeat (first | rfl | rw [wS_bind] | rw [wE_bind] | rw [wE_if] | rw [wE_ite] | rw [wE_ok] | refine wE_ext fun _ _ => ?_))
theorem wE_truth {b : Bool} {Q : Bool → GS → Prop} : wE (truth (.bl b) G) E Q = Q b G := id rfl
theorem wE_dAnd {a b : DT} {Q : Bool → GS → Prop} : wE (dAnd a b σ G) E Q = wE (a σ G) E fun k G1 => if k = true then wE (b σ G1) E Q else Q false G1 := by unfold dAnd; (repeat (first | rfl | rw [wS_bind] | rw [wE_bind] | rw [wE_if] | rw [wE_ite] | rw [wE_ok] | refine wE_ext fun _ _ => ?_))
theorem wE_dOr {a b : DT} {Q : Bool → GS → Prop} : wE (dOr a b σ G) E Q = wE (a σ G) E fun k G1 => if k = true then Q true G1 else wE (b σ G1) E Q := by unfold dOr; (repeat (first | rfl | rw [wS_bind] | rw [wE_bind] | rw [wE_if] | rw [wE_ite] | rw [wE_ok] | refine wE_ext fun _ _ => ?_))
theorem wE_dNot {a : DT} {Q : Bool → GS → Prop} : wE (dNot a σ G) E Q = wE (a σ G) E fun k G1 => Q (!k) G1 := by unfold dNot; (repeat (first | rfl | rw [wS_bind] | rw [wE_bind] | rw [wE_if] | rw [wE_ite] | rw [wE_ok] | refine wE_ext fun _ _ => ?_))
theorem wE_dYes {Q : Bool → GS → Prop} : wE (dYes σ G) E Q = Q true G := id rfl
theorem wE_seal {e : DE} : wE (eSeal e σ G) E Q = wE (e σ G) E fun a G' => wE (finish subD G a G' .ok) E Q := by
  unfold eSeal sealE
  cases e σ G <;> rfl
theorem wE_rg1 {a : DA} {Q : List D → GS → Prop} : wE (iRg1 a σ G) E Q = wE (a σ G) E fun xs G1 => wE (rng1 xs G1) E Q := by unfold iRg1; (repeat (first | rfl | rw [wS_bind] | rw [wE_bind] | rw [wE_if] | rw [wE_ite] | rw [wE_ok] | refine wE_ext fun _ _ => ?_))
theorem wE_rg2 {a : DA} {Q : List D → GS → Prop} : wE (iRg2 a σ G) E Q = wE (a σ G) E fun xs G1 => wE (rng2 xs G1) E Q := by unfold iRg2; (repeat (first | rfl | rw [wS_bind] | rw [wE_bind] | rw [wE_if] | rw [wE_ite] | rw [wE_ok] | refine wE_ext fun _ _ => ?_))
theorem wE_en {a : DA} {Q : List D → GS → Prop} : wE (iEn a σ G) E Q = wE (a σ G) E fun xs G1 => wE (enumR xs G1) E Q := by unfold iEn; (repeat (first | rfl | rw [wS_bind] | rw [wE_bind] | rw [wE_if] | rw [wE_ite] | rw [wE_ok] | refine wE_ext fun _ _ => ?_))
theorem enumR_lst {ds : List D} : enumR [.lst ds] G = .ok (enumD 0 ds) G := id rfl
def revD (d : D) (G : GS) : RE (List D) := match d with | .tup ds => .ok ds.reverse G | .lst ds => .ok ds.reverse G | _ => .bad
theorem wE_rvD {e : DE} {Q : List D → GS → Prop} : wE (iRevD e σ G) E Q = wE (e σ G) E fun d G1 => wE (revD d G1) E Q := by unfold iRevD; (repeat (first | rfl | rw [wS_bind] | rw [wE_bind] | rw [wE_if] | rw [wE_ite] | rw [wE_ok] | refine wE_ext fun _ _ => ?_))
theorem revD_tup {ds : List D} : revD (.tup ds) G = .ok ds.reverse G := id rfl
theorem revD_lst {ds : List D} : revD (.lst ds) G = .ok ds.reverse G := id rfl
theorem wE_lcN {it : DI} {g : CG} {t : DT} {e : DE} {vs : List Nat} : wE (eLcN it g t e vs σ G) E Q = wE (it σ G) E fun ds G1 => wE (lcL G1.length g.d t e (wipeD σ vs) ds (G1 ++ [.lst []])) E Q := by unfold eLcN; (repeat (first | rfl | rw [wS_bind] | rw [wE_bind] | rw [wE_if] | rw [wE_ite] | rw [wE_ok] | refine wE_ext fun _ _ => ?_))
theorem wE_lcA {it : DE} {g : CG} {t : DT} {e : DE} {vs : List Nat} : wE (eLcA it g t e vs σ G) E Q = wE (it σ G) E fun d G1 => wE (lcA G1.length g.d t e (wipeD σ vs) d (G1 ++ [.lst []])) E Q := by unfold eLcA; (repeat (first | rfl | rw [wS_bind] | rw [wE_bind] | rw [wE_if] | rw [wE_ite] | rw [wE_ok] | refine wE_ext fun _ _ => ?_))
theorem wE_dcN {it : DI} {g : CG} {t : DT} {ek ev : DE} {vs : List Nat} : wE (eDcN it g t ek ev vs σ G) E Q = wE (it σ G) E fun ds G1 => wE (dcL G1.length g.d t ek ev (wipeD σ vs) ds (G1 ++ [.dic [] []])) E Q := by unfold eDcN; (repeat (first | rfl | rw [wS_bind] | rw [wE_bind] | rw [wE_if] | rw [wE_ite] | rw [wE_ok] | refine wE_ext fun _ _ => ?_))
theorem lcA_lst {n : Nat} {g : DG} {t : DT} {e : DE} {ds : List D} : lcA n g t e σ (.lst ds) G = lcL n g t e σ ds G := rfl
theorem lcA_tup {n : Nat} {g : DG} {t : DT} {e : DE} {ds : List D} : lcA n g t e σ (.tup ds) G = lcL n g t e σ ds G := rfl
theorem lcA_str {n : Nat} {g : DG} {t : DT} {e : DE} {ds : List Nat} : lcA n g t e σ (.str ds) G = lcL n g t e σ (chars ds) G := rfl
theorem wE_lr1 {new : Bool} {e : DE} : wE (eLR1 new e σ G) E Q = wE (e σ G) E fun d G1 => intW d fun b => wE (lstRg new 0 b G1) E Q := by
  unfold eLR1; rw [wE_bind]
  refine wE_ext fun d G1 => ?_
  cases d <;> rfl
theorem wE_fun {N : Nat} {b : DS} {ds : List D} : wE (runF N b ds G) E Q = wS (b (ds.map some ++ List.replicate (N - ds.length) none) G)
    ⟨fun _ G' => wE (finish subD G .non G' .ok) E Q, fun d G' => wE (finish subD G d G' .ok) E Q, fun _ _ => False, fun _ _ => False, fun c fs _ G' => wE (finish (α := List (Str × D)) subF G fs G' (.exc c) : RE D) E Q⟩ := by
  unfold runF
  cases b (ds.map some ++ List.replicate (N - ds.length) none) G <;> rfl
end

/-! ## what a def hands back -/
def nrO : Ob → Bool
  | .lst ds => nrDs ds
  | .ins _ fs => nrDs (fs.map (·.2))
  | .dic _ ds => nrDs ds
  | .dcT _ ds => nrDs ds
def nrG (G : GS) : Bool := G.all nrO
mutual
theorem cls_nr {n : Nat} : ∀ {d : D}, nrD d = true → clsD n d = true
  | .non, _ => rfl
  | .bl _, _ => rfl
  | .int _, _ => rfl
  | .str _, _ => rfl
  | .tup ds, h => by simp only [clsD]; exact clss_nr (by simpa only [nrD] using h)
  | .lst ds, h => by simp only [clsD]; exact clss_nr (by simpa only [nrD] using h)
  | .dic _ ds, h => by simp only [clsD]; exact clss_nr (by simpa only [nrD] using h)
  | .exn _ _ _ ds, h => by simp only [clsD]; exact clss_nr (by simpa only [nrD] using h)
  | .scr _, _ => rfl
  | .key _, _ => rfl
  | .ref _, h => by simp [nrD] at h
theorem clss_nr {n : Nat} : ∀ {ds : List D}, nrDs ds = true → clsDs n ds = true
  | [], _ => rfl
  | d :: ds, h => by
    simp only [nrDs, Bool.and_eq_true] at h
    simp only [clsDs, cls_nr h.1, clss_nr h.2, Bool.true_and]
end
theorem clsG_nr {n : Nat} {G : GS} (h : nrG G = true) : clsG n G = true := by
  unfold clsG nrG at *
  rw [List.all_eq_true] at *
  intro o ho
  have := h o ho
  cases o with
  | lst ds => exact clss_nr this
  | ins c fs => exact clss_nr this
  | dic ks ds => exact clss_nr this
  | dcT ks ds => exact clss_nr this
section
variable {β : Type} {α : Type} {G G2 t : GS} {E : EK} {Q : β → GS → Prop}
theorem fin_same {sub : (Nat → Option D) → α → Option α} {d : α} {k : α → GS → RE β} (h : G2.length = G.length) : finish sub G d G2 k = k d G2 := by
  unfold finish; rw [if_pos h]
theorem fin_nr {d : D} {k : D → GS → RE β} (h : nrD d = true) (hl : G2.length = G.length) (hg : nrG G2 = true) : finish subD G d (G2 ++ t) k = k d G2 := by
  unfold finish
  by_cases e : (G2 ++ t).length = G.length
  · have : t = [] := by
      rw [List.length_append, hl] at e
      exact List.length_eq_zero_iff.mp (by omega)
    subst this
    rw [if_pos e, List.append_nil]
  · have e2 : (G2 ++ t).take G.length = G2 := by rw [← hl]; exact List.take_left
    rw [if_neg e, e2, if_pos (by rw [clsG_nr hg, Bool.or_true]), subD_nr h]
theorem fin_ref {ds : List D} {k : D → GS → RE β} (h : nrDs ds = true) (hl : G2.length = G.length) (hg : nrG G2 = true) : finish subD G (.ref G.length) (G2 ++ .lst ds :: t) k = k (.lst ds) G2 := by
  unfold finish
  have e : ¬ (G2 ++ .lst ds :: t).length = G.length := by rw [List.length_append, List.length_cons, hl]; omega
  have e2 : (G2 ++ .lst ds :: t).take G.length = G2 := by rw [← hl]; exact List.take_left
  have e3 : (G2 ++ .lst ds :: t)[G.length]? = some (.lst ds) := by rw [← hl, List.getElem?_append_right (Nat.le_refl _)]; simp
  rw [if_neg e, e2, if_pos (by rw [clsG_nr hg, Bool.or_true])]
  have e4 : subD (sealR 6 G.length (G2 ++ .lst ds :: t)) (.ref G.length) = some (.lst ds) := by
    simp only [subD, sealR, Nat.lt_irrefl, if_false, e3, subDs_nr h, Option.map_some]
  rw [e4]
theorem fin_refAt {ds : List D} {k : D → GS → RE β} {n : Nat} (h : nrDs ds = true) (hl : G2.length = G.length) (hg : nrG G2 = true) (hn : G.length ≤ n) (ht : (G2 ++ t)[n]? = some (.lst ds)) : finish subD G (.ref n) (G2 ++ t) k = k (.lst ds) G2 := by
  unfold finish
  have hlt : n < (G2 ++ t).length := (List.getElem?_eq_some_iff.mp ht).1
  have e : ¬ (G2 ++ t).length = G.length := by omega
  have e2 : (G2 ++ t).take G.length = G2 := by rw [← hl]; exact List.take_left
  rw [if_neg e, e2, if_pos (by rw [clsG_nr hg, Bool.or_true])]
  have e4 : subD (sealR 6 G.length (G2 ++ t)) (.ref n) = some (.lst ds) := by
    simp only [subD, sealR, Nat.not_lt.mpr hn, if_false, ht, subDs_nr h, Option.map_some]
  rw [e4]
end

/-! ## comprehensions -/
section
variable {G : GS} {E : EK}
/-- whatever the element does to what is ahead -/
theorem wp_lcL {g : DG} {t : DT} {e : DE} {σ : PEnv} {n : Nat} {Q : D → GS → Prop} (Inv : Nat → List D → GS → Prop) : ∀ (ds : List D) (i : Nat) (acc : List D) (G : GS), G.length = n → Inv i acc G →
    (∀ (j : Nat) (d : D) (acc : List D) (G : GS), ds[j]? = some d → G.length = n → Inv (i + j) acc G → asgW (g d σ) fun σ2 => wE (t σ2 (G ++ [.lst acc])) never fun k G1 =>
      if k = true then wE (e σ2 G1) never fun y G2 => acc.length < maxLine ∧ ∃ G3, G2 = G3 ++ [.lst acc] ∧ G3.length = n ∧ Inv (i + j + 1) (acc ++ [y]) G3 else ∃ G3, G1 = G3 ++ [.lst acc] ∧ G3.length = n ∧ Inv (i + j + 1) acc G3) →
    (∀ acc G, G.length = n → Inv (i + ds.length) acc G → Q (.ref n) (G ++ [.lst acc])) → wE (lcL n g t e σ ds (G ++ [.lst acc])) E Q
  | [], i, acc, G, hn, h0, _, fin => fin acc G hn h0
  | d :: ds, i, acc, G, hn, h0, st, fin => by
    have h := st 0 d acc G rfl hn h0
    unfold asgW at h
    simp only [lcL]
    have nexts : ∀ (j : Nat) (d : D) (acc : List D) (G : GS), ds[j]? = some d → G.length = n → Inv (i + 1 + j) acc G → asgW (g d σ) fun σ2 => wE (t σ2 (G ++ [.lst acc])) never fun k G1 =>
      if k = true then wE (e σ2 G1) never fun y G2 => acc.length < maxLine ∧ ∃ G3, G2 = G3 ++ [.lst acc] ∧ G3.length = n ∧ Inv (i + 1 + j + 1) (acc ++ [y]) G3 else ∃ G3, G1 = G3 ++ [.lst acc] ∧ G3.length = n ∧ Inv (i + 1 + j + 1) acc G3 := by
      intro j d acc G hd hn hi
      have := st (j + 1) d acc G (by simpa using hd) hn (by rw [show i + (j + 1) = i + 1 + j by omega]; exact hi)
      rw [show i + (j + 1) + 1 = i + 1 + j + 1 by omega] at this
      exact this
    have fins : ∀ acc G, G.length = n → Inv (i + 1 + ds.length) acc G → Q (.ref n) (G ++ [.lst acc]) := fun acc G hn hi => fin acc G hn (by rw [List.length_cons, show i + (ds.length + 1) = i + 1 + ds.length by omega]; exact hi)
    cases q : g d σ with
    | none => rw [q] at h; exact h.elim
    | some σ2 =>
      rw [q] at h
      simp only at h ⊢
      rw [wE_bindN]
      refine wE_mono h (fun k G1 h => ?_) fun _ _ _ z => z
      cases k with
      | false =>
        simp only [Bool.false_eq_true, if_false] at h ⊢
        obtain ⟨G3, rfl, hl, hi⟩ := h
        exact wp_lcL Inv ds (i + 1) acc G3 hl hi nexts fins
      | true =>
        simp only [if_true] at h ⊢
        rw [wE_bindN]
        refine wE_mono h (fun y G2 h => ?_) fun _ _ _ z => z
        obtain ⟨hm, G3, rfl, hl, hi⟩ := h
        have e1 : (G3 ++ [Ob.lst acc])[n]? = some (.lst acc) := by rw [← hl]; exact get_new
        have e2 : (G3 ++ [Ob.lst acc]).set n (.lst (acc ++ [y])) = G3 ++ [.lst (acc ++ [y])] := by rw [← hl]; exact set_new
        simp only [e1, e2, hm, if_true]
        exact wp_lcL Inv ds (i + 1) (acc ++ [y]) G3 hl hi nexts fins
/-- the element and the test leave everything as it is: ds by f -/
theorem wp_lcP {g : DG} {t : DT} {e : DE} {σ : PEnv} {n : Nat} {ds : List D} {Q : D → GS → Prop} (f : D → Option D) (hn : G.length = n) (hl : ds.length ≤ maxLine)
    (st : ∀ (d : D) (acc : List D), d ∈ ds → asgW (g d σ) fun σ2 => wE (t σ2 (G ++ [.lst acc])) never fun k G1 => if k = true then wE (e σ2 G1) never fun y G2 => G2 = G ++ [.lst acc] ∧ f d = some y else G1 = G ++ [.lst acc] ∧ f d = none)
    (fin : Q (.ref n) (G ++ [.lst (ds.filterMap f)])) : wE (lcL n g t e σ ds (G ++ [.lst []])) E Q := by
  refine wp_lcL (fun i acc G' => acc = (ds.take i).filterMap f ∧ G' = G) ds 0 [] G hn ⟨rfl, rfl⟩ (fun j d acc G' hd hl' ⟨ha, hG⟩ => ?_) (fun acc G' hn' ⟨ha, hG⟩ => ?_)
  · subst hG
    rw [Nat.zero_add] at ha ⊢
    have hj : j < ds.length := (List.getElem?_eq_some_iff.mp hd).1
    have tk : ds.take (j + 1) = ds.take j ++ [d] := by rw [List.take_succ, hd]; rfl
    have h := st d acc (List.mem_of_getElem? hd)
    unfold asgW at h ⊢
    cases q : g d σ with
    | none => rw [q] at h; exact h
    | some σ2 =>
      rw [q] at h
      refine wE_mono h (fun k G1 h => ?_) fun _ _ _ z => z
      cases k with
      | false =>
        simp only [Bool.false_eq_true, if_false] at h ⊢
        exact ⟨G', h.1, hn, by rw [tk, List.filterMap_append, ha]; simp [h.2], rfl⟩
      | true =>
        simp only [if_true] at h ⊢
        refine wE_mono h (fun y G2 h => ?_) fun _ _ _ z => z
        refine ⟨?_, G', h.1, hn, by rw [tk, List.filterMap_append, ha]; simp [h.2], rfl⟩
        have := List.length_filterMap_le f (ds.take j)
        rw [← ha, List.length_take] at this
        omega
  · subst hG
    rw [Nat.zero_add, List.take_length] at ha
    subst ha
    exact fin
theorem wE_never {α : Type} {r : RE α} {Q : α → GS → Prop} (h : wE r never Q) : wE r E Q := wE_mono h (fun _ _ z => z) fun _ _ _ z => z.elim
end
end Dl
namespace Dl
open PySem L2
theorem get_app {α : Type} {A B : List α} {k : Nat} : (A ++ B)[A.length + k]? = B[k]? := by rw [List.getElem?_append_right (by omega)]; congr 1; omega
theorem get_app0 {α : Type} {A B : List α} : (A ++ B)[A.length]? = B[0]? := get_app (k := 0)
theorem set_app {α : Type} {A B : List α} {k : Nat} {o : α} : (A ++ B).set (A.length + k) o = A ++ B.set k o := by rw [List.set_append_right _ _ (by omega)]; congr 2; omega
theorem set_app0 {α : Type} {A B : List α} {o : α} : (A ++ B).set A.length o = A ++ B.set 0 o := set_app (k := 0)
theorem lt_line {n : Nat} (h : n < 16777216) : n < maxLine := h
theorem le_line {n : Nat} (h : n ≤ 16777216) : n ≤ maxLine := h
theorem nrG_cons {o : Ob} {G : GS} : nrG (o :: G) = (nrO o && nrG G) := rfl
theorem nrDs_append {a b : List D} : nrDs (a ++ b) = (nrDs a && nrDs b) := by
  induction a with
  | nil => rfl
  | cons x a ih => simp only [List.cons_append, nrDs, ih, Bool.and_assoc]
theorem nrG_append {a b : GS} : nrG (a ++ b) = (nrG a && nrG b) := List.all_append
theorem nrDs_strs (l : List (List Nat)) : nrDs (l.map D.str) = true := by
  induction l with
  | nil => rfl
  | cons x l ih => simp [nrDs, nrD, ih]
theorem nrDs_intl (l : List Int) : nrDs (l.map D.int) = true := by
  induction l with
  | nil => rfl
  | cons x l ih => simp [nrDs, nrD, ih]
theorem cut_to {α : Type} (l : List α) (k : Nat) : cutL l none (some (k : Int)) = l.take k := by
  unfold cutL
  rw [HT.sIx_none, HT.sIx_nat, List.drop_zero, Nat.sub_zero]
  by_cases h : k ≤ l.length
  · rw [Nat.min_eq_left h]
  · rw [Nat.min_eq_right (by omega), List.take_of_length_le (Nat.le_refl _), List.take_of_length_le (by omega)]
theorem cut_from {α : Type} (l : List α) (k : Nat) : cutL l (some (k : Int)) none = l.drop k := by
  unfold cutL
  rw [HT.sIx_none, HT.sIx_nat]
  rw [List.take_of_length_le (by rw [List.length_drop]; omega)]
  by_cases h : k ≤ l.length
  · rw [Nat.min_eq_left h]
  · rw [Nat.min_eq_right (by omega), List.drop_length, List.drop_eq_nil_of_le (by omega)]
theorem mapM_map {α β γ : Type} (f : α → β) (g : β → Option γ) (h : α → γ) (e : ∀ a, g (f a) = some (h a)) : ∀ l : List α, (l.map f).mapM g = some (l.map h)
  | [] => rfl
  | a :: l => by rw [List.map_cons, List.mapM_cons, e, mapM_map f g h e l]; rfl
theorem flats_strs (l : List (List Nat)) : flats (l.map D.str) = some (l.map fun s => V.str (S s)) := mapM_map D.str flat _ (fun _ => rfl) l
theorem flats_ints (l : List Int) : flats (l.map D.int) = some (l.map V.int) := mapM_map D.int flat _ (fun _ => rfl) l
theorem eqV_int (a b : Int) : eqV (.int a) (.int b) = decide (a = b) := by rw [Bool.eq_iff_iff]; simp [eqV]
theorem eqV_str (a b : List Nat) : eqV (.str (S a)) (.str (S b)) = decide (a = b) := by
  have : (S a = S b) ↔ a = b := ⟨S_inj, fun h => by rw [h]⟩
  rw [Bool.eq_iff_iff]; simp [eqV, this]
theorem inV_ints (k : Int) (l : List Int) : inV (.int k) (l.map V.int) = decide (k ∈ l) := by
  unfold inV
  induction l with
  | nil => simp
  | cons x l ih =>
    rw [List.map_cons, List.any_cons, ih, eqV_int]
    simp only [List.mem_cons, Bool.decide_or]
    congr 1
    exact dec_iff eq_comm
theorem inV_strs (k : List Nat) (l : List (List Nat)) : inV (.str (S k)) (l.map fun s => V.str (S s)) = decide (k ∈ l) := by
  unfold inV
  induction l with
  | nil => simp
  | cons x l ih =>
    rw [List.map_cons, List.any_cons, ih, eqV_str]
    simp only [List.mem_cons, Bool.decide_or]
    congr 1
    exact dec_iff eq_comm
theorem findV_idx (k : Int) : ∀ (l : List Int), findV (.int k) (l.map V.int) = if k ∈ l then some (l.idxOf k) else none := by
  intro l
  induction l with
  | nil => simp [findV]
  | cons x l ih =>
    rw [List.map_cons]
    unfold findV
    rw [ih, eqV_int]
    by_cases h : x = k
    · subst h; simp
    · have h' : ¬ k = x := fun z => h z.symm
      by_cases h2 : k ∈ l
      · have : (x == k) = false := by simp [h]
        simp [h, h', h2, List.idxOf_cons, this]
      · simp [h, h', h2]
theorem bIxA_seq {G : GS} {a d : D} {es : List D} {j : Nat} (h : seqOf G a = some es) (hd : es[j]? = some d) : bIxA a (.int j) G = .ok d G := by
  cases a with
  | dic ks ds => simp [seqOf, lstOf] at h
  | ref n =>
    have hg : G[n]? = some (.lst es) := by
      simp only [seqOf, lstOf] at h
      cases q : G[n]? with
      | none => rw [q] at h; cases h
      | some o => cases o <;> simp_all
    rw [bIxA_ref hg]
    exact bIx_seq h hd
  | _ => exact bIx_seq h hd
/-! ## items by their index -/
def ixO (o : Option D) (G : GS) : RE D := match o with | some d => .ok d G | none => .bad
theorem ixO_some {d : D} {G : GS} : ixO (some d) G = .ok d G := id rfl
def ixL (ds : List D) (k : Int) (G : GS) : RE D := ixO (atI ds k) G
def ixS (s : List Nat) (k : Int) (G : GS) : RE D := match atI s k with | some c => .ok (.str [c]) G | none => .bad
def ixR (o : Option Ob) (y : D) (G : GS) : RE D := match o, y with
  | some (.lst ds), .int k => ixL ds k G
  | some (.dic ks ds), y => dGet ks ds y G
  | _, _ => .bad
section
variable {G : GS} {E : EK} {Q : D → GS → Prop}
theorem bxA_lst {ds : List D} {k : Int} : bIxA (.lst ds) (.int k) G = ixL ds k G := id rfl
theorem bxA_tup {ds : List D} {k : Int} : bIxA (.tup ds) (.int k) G = ixL ds k G := id rfl
theorem bxA_str {s : List Nat} {k : Int} : bIxA (.str s) (.int k) G = if s.length ≤ maxLine then ixS s k G else .bad := id rfl
theorem bIxA_dic {ks : List DK} {ds : List D} {y : D} : bIxA (.dic ks ds) y G = dGet ks ds y G := id rfl
theorem bIxA_refR {n : Nat} {y : D} : bIxA (.ref n) y G = ixR G[n]? y G := by
  unfold bIxA ixR
  cases h : G[n]? with
  | none => cases y <;> simp [bIx, seqOf, lstOf, h]
  | some o => cases o <;> cases y <;> simp [bIx, seqOf, lstOf, h, ixL, ixO] <;> rfl
theorem ixR_lst {ds : List D} {k : Int} : ixR (some (.lst ds)) (.int k) G = ixL ds k G := id rfl
theorem ixR_dic {ks : List DK} {ds : List D} {y : D} : ixR (some (.dic ks ds)) y G = dGet ks ds y G := by cases y <;> rfl
theorem ixL_nat {ds : List D} {k : Nat} : ixL ds (k : Int) G = ixO ds[k]? G := by unfold ixL; rw [atI_natC]
theorem ixL_lit {ds : List D} {k : Nat} : ixL ds (no_index (OfNat.ofNat k : Int)) G = ixO ds[k]? G := ixL_nat
theorem ixL_0 {ds : List D} : ixL ds 0 G = ixO ds[0]? G := ixL_nat (k := 0)
theorem ixL_1 {ds : List D} : ixL ds 1 G = ixO ds[1]? G := ixL_nat (k := 1)
theorem ixL_get {ds : List D} {k : Nat} {d : D} (h : ds[k]? = some d) : ixL ds (k : Int) G = .ok d G := by rw [ixL_nat, h]; rfl
theorem ixS_get {s : List Nat} {k c : Nat} (h : s[k]? = some c) : ixS s (k : Int) G = .ok (.str [c]) G := by unfold ixS; rw [atI_natC, h]
theorem ixL_int {ds : List D} {v : Int} {d : D} (h0 : 0 ≤ v) (h : ds[v.toNat]? = some d) : ixL ds v G = .ok d G := by unfold ixL; rw [atI_toNat _ h0, h]; rfl
/-- any of them -/
theorem wp_pick {xs : List D} {v : Int} (h0 : 0 ≤ v) (h1 : v < xs.length) (h : ∀ d ∈ xs, Q d G) : wE (ixL xs v G) E Q := by
  have hx : v.toNat < xs.length := by omega
  rw [ixL_int h0 (List.getElem?_eq_getElem hx)]
  exact h _ (List.getElem_mem hx)
end
/-- statements that only go on -/
theorem wS_cut {r : RSt} {P : Po} (I : PEnv → GS → Prop) (h : wS r ⟨I, fun _ _ => False, fun _ _ => False, fun _ _ => False, fun _ _ _ _ => False⟩) (k : ∀ σ G, I σ G → P.nx σ G) : wS r P :=
  wS_mono h k (fun _ _ z => z.elim) (fun _ _ z => z.elim) (fun _ _ z => z.elim) fun _ _ _ _ z => z.elim
theorem cInA_strs {G : GS} {n : Nat} {l : List (List Nat)} (h : G[n]? = some (.lst (l.map D.str))) (neg : Bool) (s : List Nat) : cInA neg (.str s) (.ref n) G = .ok (.bl (xor neg (decide (s ∈ l)))) G := by
  rw [cInA_ref h]
  simp only [cIn, flat, seqOf, lstOf, h, Option.bind_some, flats_strs, inV_strs]
theorem cInA_ints {G : GS} {n : Nat} {l : List Int} (h : G[n]? = some (.lst (l.map D.int))) (neg : Bool) (k : Int) : cInA neg (.int k) (.ref n) G = .ok (.bl (xor neg (decide (k ∈ l)))) G := by
  rw [cInA_ref h]
  simp only [cIn, flat, seqOf, lstOf, h, Option.bind_some, flats_ints, inV_ints]
theorem cInA_lints {G : GS} {l : List Int} (neg : Bool) (k : Int) : cInA neg (.int k) (.lst (l.map D.int)) G = .ok (.bl (xor neg (decide (k ∈ l)))) G := by
  simp only [cInA, cIn, flat, seqOf, lstOf, Option.bind_some, flats_ints, inV_ints]
theorem cut_lit {α : Type} (l : List α) (k : Nat) : cutL l none (some (no_index (OfNat.ofNat k : Int))) = l.take k := cut_to l k
theorem mIndex_ints {G : GS} {l : List Int} {k : Int} (h : k ∈ l) : mIndex (.lst (l.map D.int)) [.int k] G = .ok (.int (l.idxOf k : Nat)) G := by
  simp only [mIndex, lstOf, Option.bind_some, flats_ints, flat, findV_idx, if_pos h]
theorem len_le {n m : Nat} (h : n ≤ m) (h2 : m ≤ 16777216) : n ≤ maxLine := Nat.le_trans h h2
theorem if_F {c p : Prop} [Decidable c] : (if c then p else False) = (c ∧ p) := by by_cases h : c <;> simp [h]
end Dl
/-! enumerate of a tuple -/
namespace DlEn
open PySem PySem.Spec PyProof.Rows
open Sem (wp)
theorem en1_meets {v : Value} {o : Obj} {Z : Heap → Prop} (B : Begins v o Z) :
    Meets (Builtin.«enumerate.__new__» ⟨[.type "enumerate", v], []⟩) (fun _ R s => Z s.heap ∧
      R (.ok (.ret (.ref (s.heap.push o).objs.size)))
        { s with heap := (s.heap.push o).push { cls := .type "enumerate", data := .fields #[.none, .bool false, .ref s.heap.objs.size, rawInt 0, .none, .none] } }) := by
  refine .of_wp fun prog w A R s h => ?_
  obtain ⟨hp, g, d, tk, os⟩ := s
  have hsub := sub_enumerate
  have q1 : ∀ {A' : Around} {E : Value → Shared → Prop} {Q : Value → Shared → Prop}, Q (.ref hp.objs.size) ⟨hp.push o, g, d, tk, os⟩ → wpAny (model prog w) A' (pyIter v) Q E ⟨hp, g, d, tk, os⟩ := fun q => B.iter prog w _ _ _ _ h.1 q
  have hr := h.2
  clear h
  wp_walk using q1
  refine wpAny_stack_any fun st => wpAny_pure ?_
  split
  · rename_i c _ _ _ _ _
    by_cases hc : (c == Value.type "enumerate") = true
    · wp_walk using q1
      exact ⟨_, rfl, hr⟩
    · wp_walk using q1
      exact ⟨_, rfl, hr⟩
  · wp_walk using q1
    exact ⟨_, rfl, hr⟩
section
variable {prog : Program} {w : World} {A : Around} {E : Value → Shared → Prop} {s : Shared}
theorem en1_call {v : Value} {o : Obj} {Z : Heap → Prop} {Q : Value → Shared → Prop} (B : Begins v o Z) (h1 : Z s.heap)
    (h : ∀ h', IsEnum h' (s.heap.objs.size + 1) s.heap.objs.size 0 .none → h'.get? s.heap.objs.size = some o →
      (∀ b o, s.heap.get? b = some o → h'.get? b = some o) → Q (.ref (s.heap.objs.size + 1)) { s with heap := h' }) :
    wpAny (model prog w) A (call (.type "enumerate") [v]) Q E s := by
  refine callType_new F.called_enumerate (by decide) (F.typeCall_enumerate_1 _) (F.newCall_enumerate_1 _) (fun obj => F.args_object_init_2 obj _) F.entry_enumerate_new (en1_meets B) ⟨h1, ?_⟩
  have hz : (s.heap.push o).objs.size = s.heap.objs.size + 1 := Heap.size_push ..
  have he := Heap.get?_push_size (s.heap.push o) (o := { cls := .type "enumerate", data := .fields #[.none, .bool false, .ref s.heap.objs.size, rawInt 0, .none, .none] }) rfl
  rw [hz] at he
  show _ ∧ _
  rw [hz]
  exact ⟨⟨_, he, rfl⟩, h _ he (Heap.get?_push_of_some _ (Heap.get?_push_size _ B.free)) fun b o x => Heap.get?_push_of_some _ (Heap.get?_push_of_some _ x)⟩
end
end DlEn
namespace Dl
open PySem L2 PyProof.Rows
def IteT (K : PySem.W.Frag) (a : Addr) (n : Nat) : It :=
  ⟨fun i H => i < n ∧ ∃ (xs : List V) (x : V), SqT K H a xs ∧ xs[i]? = some x, fun i H v H' => ∃ T x, v = .ref T ∧ H T = none ∧ H' = upd H T (.tup [.int (i : Nat), x]) ∧ ∀ xs, SqT K H a xs → xs[i]? = some x, fun i H => n ≤ i ∧ ∃ xs : List V, SqT K H a xs ∧ xs.length = n⟩
theorem turn_enT {P : Program} {w : World} {K : PySem.W.Frag} {elts : List Expr} {kk : Nat} {tpos : Pos} (a e it : Addr) (n : Nat) :
    Turn P w K (.Tuple elts kk tpos) (IteT K a n) [e, it] e (fun i h => i ≤ n ∧ (∃ old, IsEnum h e it ((i : Nat) : Int) old) ∧ h.IsTupleIter it a i ∧ e ≠ it) where
  mem := List.mem_cons_self
  obj := fun i h st b hb => by
    obtain ⟨_, ⟨old, he⟩, ⟨o, ho, hc, hd⟩, _⟩ := st
    rcases List.mem_cons.mp hb with z | z
    · subst z; exact ⟨_, he, fun v q => nomatch q⟩
    · rw [List.mem_singleton.mp z]; exact ⟨o, ho, fun v q => by rw [hd] at q; cases q⟩
  keep := fun i h h' st k => ⟨st.1, ⟨st.2.1.choose, k e List.mem_cons_self _ st.2.1.choose_spec⟩, st.2.2.1.at fun o q => k it (List.mem_cons_of_mem _ List.mem_cons_self) o q, st.2.2.2⟩
  item := by
    intro X hP hw hK hc i pins s σ H E I hf st hg
    subst hP hw hK
    obtain ⟨hle, ⟨old, he⟩, hit, hne⟩ := st
    obtain ⟨hlt, xs, x, hq, hx⟩ := hg
    obtain ⟨its, rv, p, hz⟩ := I.tuple hq
    obtain ⟨u, hu, ru⟩ := rv.get hx
    have hel := Heap.lt_size he
    obtain ⟨io, hio, _, _⟩ := id hit
    have hil := Heap.lt_size hio
    have hai : a ≠ it := fun z => by
      obtain ⟨po, hp1, hp2, _⟩ := id p
      obtain ⟨qo, hq1, hq2, _⟩ := id hit
      rw [z, hq1] at hp1
      cases hp1
      rw [hq2] at hp2
      injection hp2 with hp3
      exact absurd hp3 (by decide)
    have hae : a ≠ e := fun z => by
      obtain ⟨po, hp1, hp2, _⟩ := id p
      have he' : s.heap.get? e = _ := he
      rw [z, he'] at hp1
      cases hp1
      injection hp2 with hp3
      exact absurd hp3 (by decide)
    have D := Draws.tuple (prog := X.prog) (w := X.w) (A := X.A.in1) (I.ok.hd hc) it a hai its.toArray
    have hn : i < its.toArray.size := by
      have := (List.getElem?_eq_some_iff.mp hu).1
      simpa using this
    refine wpAny_pyNext_enum_itemC D he ⟨hit, p⟩ hn hne (by simp [hne, hae.symm]) fun y h' tk hy ho hst hT hsz hk => ?_
    have ey : y = u := by
      have : its.toArray[i]? = some y := hy
      rw [List.getElem?_toArray, hu] at this
      exact (Option.some.inj this).symm
    subst ey
    refine ⟨_, rfl, wpAny_letOwnedTupleGo_enum (s := { s with heap := h', toks := tk + 1 }) ho fun h'' he' sb => ?_⟩
    have hT2 : h''.get? s.heap.objs.size = some { cls := .type "tuple", data := .seq #[.int i tk, y] } := (sb.2 _ (Nat.ne_of_gt hel)).trans hT
    have new : ObjOk X.prog X.w (upd H s.heap.objs.size (.tup [.int (i : Nat), x])) h'' s.heap.objs.size (.tup [.int (i : Nat), x]) :=
      ⟨by show 2 ≤ sizeLine; decide, [.int i tk, y], .cons ⟨_, rfl⟩ (.cons ru .nil), ⟨_, hT2, rfl, _, rfl⟩⟩
    have I1 : Inv X pins σ (upd H s.heap.objs.size (.tup [.int (i : Nat), x])) { s with heap := h'', toks := tk + 1 } :=
      I.turnedNew (ch := [e, it]) (fun b ob hb q => by
        have h1 : b ≠ e := fun z => hb (by rw [z]; exact List.mem_cons_self)
        have h2 : b ≠ it := fun z => hb (by rw [z]; exact List.mem_cons_of_mem _ List.mem_cons_self)
        exact (sb.2 b h1).trans (hk b ob h1 h2 q)) hf (Nat.le_refl _) new
    refine ⟨.ref s.heap.objs.size, _, I1, rfl, ⟨_, x, rfl, I.hok.fresh (Nat.le_refl _), rfl, fun ys hy => by rw [I.tuple_inj hy hq]; exact hx⟩, ⟨hlt, ⟨y, ?_⟩, hst.1.at fun o q => (sb.2 it (Ne.symm hne)).trans q, hne⟩, fun b hb => ?_⟩
    · rw [show ((i + 1 : Nat) : Int) = (i : Int) + 1 by omega]; exact he'
    · have hb' : b ≠ s.heap.objs.size := by
        rcases List.mem_cons.mp hb with z | z
        · rw [z]; exact Nat.ne_of_lt hel
        · rw [List.mem_singleton.mp z]; exact Nat.ne_of_lt hil
      rw [upd_ne hb']
      exact (hf b hb).1
  done := by
    intro X hP hw hK hc i pins s σ H E I hf st hg
    subst hP hw hK
    obtain ⟨hle, ⟨old, he⟩, hit, hne⟩ := st
    obtain ⟨hge, xs, hq, hx⟩ := hg
    obtain ⟨its, rv, p, hz⟩ := I.tuple hq
    obtain ⟨f0, f1, f2, f3, f4, f5⟩ := hf it (List.mem_cons_of_mem _ List.mem_cons_self)
    have hai : a ≠ it := fun z => by
      obtain ⟨po, hp1, hp2, _⟩ := id p
      obtain ⟨qo, hq1, hq2, _⟩ := id hit
      rw [z, hq1] at hp1
      cases hp1
      rw [hq2] at hp2
      injection hp2 with hp3
      exact absurd hp3 (by decide)
    have hl := rv.length
    have D := Draws.tuple (prog := X.prog) (w := X.w) (A := X.A.in1) (I.ok.hd hc) it a hai its.toArray
    have ei : i = its.toArray.size := by simp; omega
    subst ei
    exact wpAny_pyNext_enum_endD D he ⟨hit, p⟩ fun h' eb => ⟨rfl, I.turned (t' := s.toks) (fun b o hb q => eb b o hb q) f0 f1 f3 f4 f5⟩
  self := fun A i s Q E st h => wpAny_pyIter_enum st.2.1.choose_spec h

/-- enumerate(x), x a tuple or a list that stands still -/
def enumA (ds : List D) (G : GS) : RE (List D) := match ds with
  | [.lst ds] => .ok (enumD 0 ds) G
  | [.tup ds] => .ok (enumD 0 ds) G
  | _ => .bad
def iEnA (a : DA) : DI := fun σ G => bindE (a σ G) enumA
section
variable {X : Cx} {W : WX}
def iEnumT (K : PySem.W.Frag) (ta : TA) : TI := fun σ H R => ta σ H fun vs H1 => ∃ a xs, vs = [.ref a] ∧ SqT K H1 a xs ∧ R (IteT K a xs.length) H1
theorem pi_enT {e : Expr} {ta : TA} {p pos tpos : Pos} {elts : List Expr} {kk : Nat} (hg : Gl X "enumerate") (hm : X.mg "enumerate" = none) (ha : PA X [e] ta) (hs : starEach [e] X.env = [(false, eval e X.env)] := by rfl) :
    PI X (.Tuple elts kk tpos) (.Call (.Name "enumerate" p) [e] [] pos) (iEnumT X.K ta) := by
  constructor
  intro pins s σ H R I h
  refine Call_ (ld_blt I hg hm boot_enumerate (PyProof.Rows.callWith_type1 (thn (ha.run pos pins s σ H _ I h) fun us s1 ⟨vs, H1, I1, r1, q1⟩ => ?_) hs rfl))
  obtain ⟨a, xs, ex, hq, q⟩ := q1
  subst ex
  obtain rfl := Vals.ref1 r1
  obtain ⟨its, rv, p', hz⟩ := I1.tuple hq
  refine DlEn.en1_call (begins_tuple a its.toArray) p' fun h' he hit hk => wpAny_pyIter_enum he ?_
  have I2 : Inv X pins σ H1 { s1 with heap := h' } := I1.kept (t' := s1.toks) hk
  refine ⟨s1.heap.objs.size + 1, [s1.heap.objs.size + 1, s1.heap.objs.size], _, _, H1, rfl, I2, turn_enT a (s1.heap.objs.size + 1) s1.heap.objs.size xs.length, ⟨Nat.zero_le _, ⟨.none, he⟩, ⟨_, hit, rfl, rfl⟩, Nat.succ_ne_self _⟩, fun b hb => ?_, q⟩
  have hle : s1.heap.objs.size ≤ b := by
    rcases List.mem_cons.mp hb with z | z
    · rw [z]; exact Nat.le_add_right _ _
    · rw [List.mem_singleton.mp z]; exact Nat.le_refl _
  exact I1.fpOk hle (I1.hok.fresh hle)
theorem le_enA {a : Expr} {da : DA} {p pos tpos : Pos} {elts : List Expr} {kk : Nat} (hg : Gl X "enumerate") (hm : X.mg "enumerate" = none) (ha : PAd X W [a] da) (hs : starEach [a] X.env = [(false, eval a X.env)] := by rfl) : PId X W (.Tuple elts kk tpos) (.Call (.Name "enumerate" p) [a] [] pos) (iEnA da) := by
  refine ⟨fun pins s σ H R I h => ?_⟩
  obtain ⟨ρ, σd, G, c, h⟩ := h
  unfold iEnA at h
  by_cases hL : ∃ ds G1, da σd G = .ok [.lst ds] G1
  · obtain ⟨ds, G1, e⟩ := hL
    refine (le_en (W := W) hg hm ha hs).run pins s σ H R I ⟨ρ, σd, G, c, ?_⟩
    unfold iEn
    rw [e] at h ⊢
    exact h
  · refine (pi_enT hg hm ha hs).run pins s σ H R I ⟨ρ, σd, G, c, (EP'.bind h).mono fun _ H1 _ _ vs _ _ _ _ ⟨ρ1, G1, ds, e1, s1, d1, eq, h1⟩ => ?_⟩
    unfold enumA at h1
    split at h1
    · exact absurd ⟨_, _, eq⟩ hL
    · rename_i xs
      obtain ⟨v, r, ev, dv, dr⟩ := d1
      cases (show _ = _ from dr)
      subst ev
      obtain ⟨a, vs, ev, la, rv⟩ := dv
      subst ev
      refine ⟨a, vs, rfl, la.sq, h1 ρ1 H1 _ (.refl _ _) s1 fun i ρ' G' H' e s => ⟨fun hl => ⟨by rw [enumD_len, rv.length] at hl; exact hl, vs, (la.ext e).sq, rfl⟩, fun d hd => ?_⟩⟩
      obtain ⟨d0, h0, ed⟩ := enumD_get hd
      subst ed
      obtain ⟨v, hv, rd⟩ := rv.get h0
      refine ⟨⟨(List.getElem?_eq_some_iff.mp hv).1, vs, v, (la.ext e).sq, hv⟩, fun x H'' ⟨T, x0, ex, hT, eh, y⟩ => ?_⟩
      have := y vs (la.ext e).sq
      rw [hv] at this
      cases this
      obtain ⟨ee, ss⟩ := s.lay (.tup [.int (i : Nat), v]) hT
      subst eh
      subst ex
      refine ⟨ee, ss, T, _, rfl, .inl ⟨.inl upd_same, s.fresh hT⟩, RDs.cons (by rw [Nat.zero_add]; rfl) (RDs.cons ((rd.ext e).ext ee) RDs.nil)⟩
    · exact h1.elim
theorem wE_enA {σ : PEnv} {G : GS} {E : EK} {a : DA} {Q : List D → GS → Prop} : wE (iEnA a σ G) E Q = wE (a σ G) E fun xs G1 => wE (enumA xs G1) E Q := by unfold iEnA; simp only [wE_bind]
theorem enumA_lst {G : GS} {ds : List D} : enumA [.lst ds] G = .ok (enumD 0 ds) G := id rfl
theorem enumA_tup {G : GS} {ds : List D} : enumA [.tup ds] G = .ok (enumD 0 ds) G := id rfl

/-- [x] * n, a list that may be changed -/
noncomputable def bMulN (x y : D) (G : GS) : RE D := match x, y with
  | .lst a, .int n => if repOk n a.length = true then .ok (.ref G.length) (G ++ [.lst (repL a n.toNat)]) else .bad
  | _, _ => .bad
theorem sv_mulN : Srv2 X rMulA bMulN := by
  intro W ρ G H x y dx dy Q s rx ry q
  unfold bMulN at q
  split at q
  · rename_i a n
    cases (show _ = _ from ry)
    obtain ⟨l, xs, rfl, hl, r1⟩ := rx
    split at q
    · rename_i c
      simp only [repOk_eq, Bool.and_eq_true, decide_eq_true_eq, and_assoc] at c
      refine .inr (.inr ⟨l, n, xs, rfl, rfl, hl.1, by omega, by omega, by rw [← r1.length, ← maxLine_eq]; exact c.2.2, fun p hp => ?_⟩)
      rw [repL_flat]
      exact new_lst s (r1.rep _) q hp
    · exact q.elim
  · exact q.elim
theorem bMulN_lst {a : List D} {n : Nat} {G : GS} (h2 : n ≤ 1000) (h3 : a.length ≤ 10000) : bMulN (.lst a) (.int (n : Int)) G = .ok (.ref G.length) (G ++ [.lst (repL a n)]) := by
  simp only [bMulN]
  rw [if_pos (repOk_ok (by omega) (by omega) h3), Int.toNat_natCast]
theorem repL_one {α : Type} (x : α) : ∀ n, repL [x] n = List.replicate n x
  | 0 => rfl
  | n + 1 => by rw [repL, repL_one x n]; rfl
end
end Dl
namespace Dl
open PySem L2
theorem filterMap_cong {α β : Type} {f g : α → Option β} : ∀ {l : List α}, (∀ x ∈ l, f x = g x) → l.filterMap f = l.filterMap g
  | [], _ => rfl
  | x :: l, h => by
    rw [List.filterMap_cons, List.filterMap_cons, h x List.mem_cons_self, filterMap_cong fun y hy => h y (List.mem_cons_of_mem _ hy)]
theorem wE_toEq {α : Type} {r : RE α} {x : α} {G : GS} (h : wE r never fun a G' => a = x ∧ G' = G) : r = .ok x G := by
  obtain ⟨a, G', e, rfl, rfl⟩ := wE_get h
  exact e
theorem fin_new {β : Type} {G t : GS} {ds : List D} {k : D → GS → RE β} (h : nrDs ds = true) : finish subD G (.ref G.length) (G ++ .lst ds :: t) k = k (.lst ds) G := by
  unfold finish
  have e : ¬ (G ++ Ob.lst ds :: t).length = G.length := by rw [List.length_append, List.length_cons]; omega
  have e2 : (G ++ Ob.lst ds :: t).take G.length = G := List.take_left
  have e3 : (G ++ Ob.lst ds :: t)[G.length]? = some (.lst ds) := by rw [List.getElem?_append_right (Nat.le_refl _)]; simp
  rw [if_neg e, e2, if_pos (by rw [beqG_refl, Bool.true_or])]
  have e4 : subD (sealR 6 G.length (G ++ Ob.lst ds :: t)) (.ref G.length) = some (.lst ds) := by
    simp only [subD, sealR, Nat.lt_irrefl, if_false, e3, subDs_nr h, Option.map_some]
  rw [e4]
theorem fin_val {β : Type} {G t : GS} {d : D} {k : D → GS → RE β} (h : nrD d = true) : finish subD G d (G ++ t) k = k d G := by
  unfold finish
  by_cases e : (G ++ t).length = G.length
  · have : t = [] := by
      rw [List.length_append] at e
      exact List.length_eq_zero_iff.mp (by omega)
    subst this
    rw [if_pos e, List.append_nil]
  · have e2 : (G ++ t).take G.length = G := List.take_left
    rw [if_neg e, e2, if_pos (by rw [beqG_refl, Bool.true_or]), subD_nr h]
/-- lcR of what stands still is lcL -/
theorem lcR_still {G : GS} {g : DG} {t : DT} {e : DE} {σ : PEnv} {m : Nat} {ds : List D} (hm : G[m]? = some (.lst ds)) (f : D → Option D) (hl : ds.length ≤ maxLine)
    (st : ∀ (d : D) (acc : List D), d ∈ ds → asgW (g d σ) fun σ2 => wE (t σ2 (G ++ [.lst acc])) never fun k G1 => if k = true then wE (e σ2 G1) never fun y G2 => G2 = G ++ [.lst acc] ∧ f d = some y else G1 = G ++ [.lst acc] ∧ f d = none) :
    ∀ (k i : Nat), i + k = ds.length → ∀ (n : Nat), k < n → lcR G.length m g t e σ n i (G ++ [.lst ((ds.take i).filterMap f)]) = .ok (.ref G.length) (G ++ [.lst (ds.filterMap f)])
  | 0, i, hi, n + 1, hn => by
    have hml : m < G.length := (List.getElem?_eq_some_iff.mp hm).1
    have e1 : (G ++ [Ob.lst ((ds.take i).filterMap f)])[m]? = some (.lst ds) := by rw [List.getElem?_append_left hml]; exact hm
    have e2 : ds[i]? = none := List.getElem?_eq_none (by omega)
    rw [lcR]
    simp only [e1, e2]
    rw [List.take_of_length_le (by omega)]
  | k + 1, i, hi, n + 1, hn => by
    have hml : m < G.length := (List.getElem?_eq_some_iff.mp hm).1
    have e1 : (G ++ [Ob.lst ((ds.take i).filterMap f)])[m]? = some (.lst ds) := by rw [List.getElem?_append_left hml]; exact hm
    have hlt : i < ds.length := by omega
    have e2 : ds[i]? = some ds[i] := List.getElem?_eq_getElem hlt
    have tk : ds.take (i + 1) = ds.take i ++ [ds[i]] := by rw [List.take_succ, e2]; rfl
    have h := st ds[i] ((ds.take i).filterMap f) (List.getElem_mem hlt)
    have ih := lcR_still hm f hl st k (i + 1) (by omega) n (by omega)
    rw [lcR]
    simp only [e1, e2]
    unfold asgW at h
    cases q : g ds[i] σ with
    | none => rw [q] at h; exact h.elim
    | some σ2 =>
      rw [q] at h
      simp only at h ⊢
      obtain ⟨kk, G1, eq, h⟩ := wE_get h
      rw [eq, bindN_ok]
      cases kk with
      | false =>
        simp only [Bool.false_eq_true, if_false] at h ⊢
        obtain ⟨rfl, hf⟩ := h
        rw [← ih, tk, List.filterMap_append]
        simp [hf]
      | true =>
        simp only [if_true] at h ⊢
        obtain ⟨y, G2, eq2, rfl, hf⟩ := wE_get h
        rw [eq2, bindN_ok, get_new]
        have hle := List.length_filterMap_le f (ds.take i)
        have htk : (ds.take i).length ≤ i := List.length_take_le _ _
        simp only [show ((ds.take i).filterMap f).length < maxLine by omega, if_true, set_new]
        rw [← ih, tk, List.filterMap_append]
        simp [hf]
section
variable {σ : PEnv} {G : GS} {E : EK} {Q : D → GS → Prop} {α : Type}
def stepOk (G : GS) (g : CG) (t : DT) (e : DE) (vs : List Nat) (σ : PEnv) (d : D) (o : Option D) : Prop :=
  ∀ acc : List D, asgW (g.d d (wipeD σ vs)) fun σ2 => wE (t σ2 (G ++ [.lst acc])) never fun k G1 => if k = true then wE (e σ2 G1) never fun y G2 => G2 = G ++ [.lst acc] ∧ o = some y else G1 = G ++ [.lst acc] ∧ o = none
theorem filterMap_enc {enc : α → D} {f : α → Option D} (h : ∀ x y, enc x = enc y → f x = f y) : ∃ f' : D → Option D, ∀ x, f' (enc x) = f x := by
  refine ⟨fun d => open Classical in if hx : ∃ x, enc x = d then f hx.choose else none, fun x => ?_⟩
  have hx : ∃ y, enc y = enc x := ⟨x, rfl⟩
  simp only [hx, dite_true]
  exact h _ _ hx.choose_spec
/-- a comprehension over what stands still, whose element leaves everything as it is -/
theorem wp_sealA {it : DE} {g : CG} {t : DT} {e : DE} {vs : List Nat} (xs : List α) (enc : α → D) (f : α → Option D) (h : wE (it σ G) E fun d G1 => G1 = G ∧ (d = .lst (xs.map enc) ∨ d = .tup (xs.map enc) ∨ ∃ m, d = .ref m ∧ G[m]? = some (.lst (xs.map enc)) ∧ xs.length < 1000000) ∧ xs.length ≤ maxLine ∧
      (∀ x ∈ xs, stepOk G g t e vs σ (enc x) (f x)) ∧ (∀ x ∈ xs, ∀ y, f x = some y → nrD y = true) ∧ Q (.lst (xs.filterMap f)) G) : wE (eSeal (eLcA it g t e vs) σ G) E Q := by
  -- the same by index
  rw [wE_seal, wE_lcA]
  refine wE_mono h (fun d G1 h => ?_) fun _ _ _ z => z
  obtain ⟨rfl, hd, hl, hs, hn, hQ⟩ := h
  have hnr : nrDs (xs.filterMap f) = true := by
    rw [nrDs_all]
    intro y hy
    obtain ⟨x, hx, e⟩ := List.mem_filterMap.mp hy
    exact hn x hx y e
  -- items by their place
  let ds := xs.map enc
  -- a function of data that does the same
  have hf : ∀ x ∈ xs, ∀ y ∈ xs, enc x = enc y → f x = f y := by
    intro x hx y hy he
    have a := hs x hx []
    have b := hs y hy []
    rw [he] at a
    unfold asgW at a b
    cases q : g.d (enc y) (wipeD σ vs) with
    | none => rw [q] at a; exact a.elim
    | some σ2 =>
      rw [q] at a b
      obtain ⟨k1, G2, e1, a⟩ := wE_get a
      obtain ⟨k2, G3, e2, b⟩ := wE_get b
      rw [e1] at e2
      cases e2
      cases k1 with
      | false =>
        simp only [Bool.false_eq_true, if_false] at a b
        rw [a.2, b.2]
      | true =>
        simp only [if_true] at a b
        obtain ⟨y1, _, e3, _, a⟩ := wE_get a
        obtain ⟨y2, _, e4, _, b⟩ := wE_get b
        rw [e3] at e4
        cases e4
        rw [a, b]
  let f' : D → Option D := fun d => open Classical in if hx : ∃ x, x ∈ xs ∧ enc x = d then f hx.choose else none
  have hf' : ∀ x ∈ xs, f' (enc x) = f x := by
    intro x hx
    have h1 : ∃ y, y ∈ xs ∧ enc y = enc x := ⟨x, hx, rfl⟩
    show (open Classical in if hx : ∃ y, y ∈ xs ∧ enc y = enc x then f hx.choose else none) = f x
    rw [dif_pos h1]
    exact hf _ h1.choose_spec.1 _ hx h1.choose_spec.2
  have hfm : (xs.map enc).filterMap f' = xs.filterMap f := by
    rw [List.filterMap_map]
    exact filterMap_cong (fun x hx => hf' x hx)
  have hst : ∀ (d : D) (acc : List D), d ∈ xs.map enc → asgW (g.d d (wipeD σ vs)) fun σ2 => wE (t σ2 (G1 ++ [.lst acc])) never fun k G2 => if k = true then wE (e σ2 G2) never fun y G3 => G3 = G1 ++ [.lst acc] ∧ f' d = some y else G2 = G1 ++ [.lst acc] ∧ f' d = none := by
    intro d acc hd
    obtain ⟨x, hx, rfl⟩ := List.mem_map.mp hd
    rw [hf' x hx]
    exact hs x hx acc
  have fin : wE (finish subD G1 (.ref G1.length) (G1 ++ [.lst ((xs.map enc).filterMap f')]) .ok) E Q := by
    rw [hfm, fin_new hnr]
    exact hQ
  rcases hd with rfl | rfl | ⟨m, rfl, hm, hlt⟩
  · exact wp_lcP f' rfl (by simpa using hl) hst fin
  · exact wp_lcP f' rfl (by simpa using hl) hst fin
  · have := lcR_still hm f' (by simpa using hl) hst xs.length 0 (by simp) fuel (by unfold fuel; exact hlt)
    simp only [List.take_zero, List.filterMap_nil] at this
    show wE (lcR G1.length m g.d t e (wipeD σ vs) fuel 0 (G1 ++ [.lst []])) E _
    rw [this]
    exact fin
theorem wp_sealN {it : DI} {g : CG} {t : DT} {e : DE} {vs : List Nat} (xs : List α) (enc : α → D) (f : α → Option D) (h : wE (it σ G) E fun ds G1 => G1 = G ∧ ds = xs.map enc ∧ xs.length ≤ maxLine ∧
      (∀ x ∈ xs, stepOk G g t e vs σ (enc x) (f x)) ∧ (∀ x ∈ xs, ∀ y, f x = some y → nrD y = true) ∧ Q (.lst (xs.filterMap f)) G) : wE (eSeal (eLcN it g t e vs) σ G) E Q := by
  have key : ∀ ds, it σ G = .ok ds G → wE (eSeal (eLcN it g t e vs) σ G) E Q = wE (eSeal (eLcA (fun _ G => .ok (.lst ds) G) g t e vs) σ G) E Q := by
    intro ds e0
    rw [wE_seal, wE_lcN, wE_seal, wE_lcA, e0]
    rfl
  cases q : it σ G with
  | bad => rw [q] at h; exact h.elim
  | exc c fs G1 =>
    rw [q] at h
    rw [wE_seal, wE_lcN, q]
    exact h
  | ok ds G1 =>
    rw [q] at h
    obtain ⟨rfl, rfl, hl, hs, hn, hQ⟩ := h
    rw [key _ q]
    exact wp_sealA xs enc f ⟨rfl, .inl rfl, hl, hs, hn, hQ⟩
end
theorem filterMap_filter_map {α β γ : Type} (p : α → Bool) (g : α → β) (c : β → γ) : ∀ l : List α, l.filterMap (fun x => if p x = true then some (c (g x)) else none) = ((l.filter p).map g).map c
  | [] => rfl
  | x :: l => by
    have ih := filterMap_filter_map p g c l
    by_cases h : p x = true
    · simp [h, ih]
    · simp [h, ih]
theorem filterMap_some_map {α β : Type} (c : α → β) (l : List α) : l.filterMap (fun x => some (c x)) = l.map c := by
  induction l with
  | nil => rfl
  | cons x l ih => simp
theorem filterMap_if {α β γ : Type} (p : α → Prop) [DecidablePred p] (g : α → β) (c : β → γ) : ∀ l : List α, l.filterMap (fun x => if p x then some (c (g x)) else none) = ((l.filter fun x => decide (p x)).map g).map c
  | [] => rfl
  | x :: l => by
    have ih := filterMap_if p g c l
    by_cases h : p x
    · simp [h, ih]
    · simp [h, ih]
/-! ## o[i] = v -/
def setL (ds : List D) (n : Nat) (k : Int) (v : D) (σ : PEnv) (G : GS) : RSt := match ixN ds.length k with | some j => .nx σ (G.set n (.lst (ds.set j v))) | none => .bad
def setK (ks : List DK) (ds : List D) (n : Nat) (y v : D) (σ : PEnv) (G : GS) : RSt := match keyD y with
  | some k => if ks.length < maxLine then .nx σ (G.set n (.dic (putKs k v ks ds).1 (putKs k v ks ds).2)) else .bad
  | none => .bad
def setR (o : Option Ob) (n : Nat) (y v : D) (σ : PEnv) (G : GS) : RSt := match o, y with
  | some (.lst ds), .int k => setL ds n k v σ G
  | some (.dic ks ds), y => setK ks ds n y v σ G
  | _, _ => .bad
section
variable {σ : PEnv} {G : GS} {P : Po}
theorem setIA_R {n : Nat} {y v : D} : setIA (.ref n) y v σ G = setR G[n]? n y v σ G := by
  unfold setIA setR
  cases h : G[n]? with
  | none => cases y <;> simp [setI, h]
  | some o =>
    cases o with
    | lst ds => cases y <;> simp [setI, h, setL, keyD] <;> rfl
    | ins c fs => cases y <;> simp [setI, h, keyD]
    | dic ks ds => cases y <;> simp [setI, h, setK, keyD]
    | dcT ks ds => cases y <;> simp [setI, h, keyD]
theorem setR_lst {ds : List D} {n : Nat} {k : Int} {v : D} : setR (some (.lst ds)) n (.int k) v σ G = setL ds n k v σ G := id rfl
theorem setR_dic {ks : List DK} {ds : List D} {n : Nat} {y v : D} : setR (some (.dic ks ds)) n y v σ G = setK ks ds n y v σ G := by cases y <;> rfl
theorem setL_nat {ds : List D} {n k : Nat} {v : D} : wS (setL ds n (k : Int) v σ G) P = (k < ds.length ∧ P.nx σ (G.set n (.lst (ds.set k v)))) := by
  unfold setL
  rw [ixN_nat]
  by_cases h : k < ds.length <;> simp [h, wS]
theorem setK_int {ks : List DK} {ds : List D} {n : Nat} {k : Int} {v : D} : wS (setK ks ds n (.int k) v σ G) P = (ks.length < maxLine ∧ P.nx σ (G.set n (.dic (putKs (.inl k) v ks ds).1 (putKs (.inl k) v ks ds).2))) := by
  unfold setK
  by_cases h : ks.length < maxLine <;> simp [h, wS, keyD]
theorem wS_iff {c : Prop} [Decidable c] {r : RSt} : wS (if c then r else .bad) P = (c ∧ wS r P) := by by_cases h : c <;> simp [h, wS]
end
def keyN (i : Nat) : DK := .inl (i : Int)
theorem keyN_inj {i j : Nat} : keyN i = keyN j ↔ i = j := ⟨fun h => by unfold keyN at h; injection h with h; omega, fun h => by rw [h]⟩
theorem lookK_map (g : Nat → D) (k : Nat) : ∀ (l : List Nat), lookK (.inl (k : Int)) (l.map keyN) (l.map g) = if k ∈ l then some (g k) else none
  | [] => rfl
  | a :: l => by
    simp only [List.map_cons, lookK]
    rw [lookK_map g k l]
    by_cases h : a = k
    · subst h; simp [keyN]
    · have : ¬ keyN a = Sum.inl (k : Int) := fun z => h (keyN_inj.mp z)
      have h' : ¬ k = a := fun z => h z.symm
      simp [this, h']
theorem putK_new (g : Nat → D) {k : Nat} {l : List Nat} (h : k ∉ l) : putKs (.inl (k : Int)) (g k) (l.map keyN) (l.map g) = ((l ++ [k]).map keyN, (l ++ [k]).map g) := by
  unfold putKs
  have : ((l.map keyN).any fun x => decide (x = .inl (k : Int))) = false := by
    rw [List.any_eq_false]
    intro x hx
    obtain ⟨j, hj, rfl⟩ := List.mem_map.mp hx
    simp only [decide_eq_true_eq]
    exact fun z => h (keyN_inj.mp z ▸ hj)
  rw [this]
  simp [keyN]
section
variable {G : GS}
def lenR (o : Option Ob) (G : GS) : RE D := match o with | some (.lst ds) => .ok (.int (ds.length : Nat)) G | _ => .bad
theorem fLen_lst {ds : List D} : fLen [.lst ds] G = .ok (.int (ds.length : Nat)) G := id rfl
theorem fLen_tup {ds : List D} : fLen [.tup ds] G = .ok (.int (ds.length : Nat)) G := id rfl
theorem fLen_scr {ns : List Int} : fLen [.scr ns] G = .ok (.int (ns.length : Nat)) G := id rfl
theorem fLen_str {s : List Nat} : fLen [.str s] G = if s.length ≤ maxLine then .ok (.int (s.length : Nat)) G else .bad := id rfl
theorem fLen_ref {n : Nat} : fLen [.ref n] G = lenR G[n]? G := by
  unfold lenR
  simp only [fLen, seqOf, lstOf]
  cases G[n]? with
  | none => rfl
  | some o => cases o <;> rfl
theorem lenR_lst {ds : List D} : lenR (some (.lst ds)) G = .ok (.int (ds.length : Nat)) G := id rfl
end
end Dl
/-! sorted of lists and dicts of whole numbers -/
namespace L2
open PySem PySem.Spec PyProof.Rows
/-- the keys of a dict, whole numbers, any number of them -/
def rSrtDk : List V → Hp → VK → Prop := fun xs H Q => ∃ (a : Addr) (kvs : List (Key × V)) (ks : List Int), xs = [.ref a] ∧ Rd H a (.dK kvs) ∧ kvs.map (·.1) = ks.map Sum.inl ∧ ks.length ≤ sizeLine ∧
  ∀ (ys : List Int) (p : Addr), ys.Perm ks → ys.Pairwise (· ≤ ·) → H p = none → Q (.ref p) (upd H p (.lst (ys.map V.int)))
theorem key_ints {P : Program} {w : World} {vs : List (Key × Value)} {ks : List Int} (hkeys : vs.map (·.1) = ks.map Sum.inl) {us : List Value} (hl : us.length = ks.length)
    (h : ∀ (j : Nat) (v : Value), us[j]? = some v → ∃ (k : Key) (x : Value), vs[j]? = some (k, x) ∧ keyIs k v = true) : IntsAre us ks := by
  refine ints_each hl fun j v e => ?_
  obtain ⟨k, x, e1, e2⟩ := h j v e
  have e3 : (vs.map (·.1))[j]? = some k := by rw [List.getElem?_map, e1] <;> rfl
  rw [hkeys, List.getElem?_map] at e3
  rcases hk : ks[j]? with _ | y
  · rw [hk] at e3; cases e3
  · rw [hk] at e3
    obtain rfl : Sum.inl y = k := Option.some.inj e3
    rcases keyIs_shape e2 with ⟨i, t, ek, ev⟩ | ⟨z, t, ek, _⟩
    · cases ek; exact ⟨y, t, rfl, ev⟩
    · cases ek
theorem cr_srtDk {X : Cx} (hcalm : X.calm = true) : CallR X (.builtin "sorted") rSrtDk := by
  rintro pins s σ H xs us Q I r ⟨a, kvs, ks, rfl, hd, hks, hlen, q⟩
  obtain rfl := Vals.ref1 r
  obtain ⟨_, lo, vs, rel, dd⟩ := dk_rd I.hok hd
  obtain ⟨ep, hat⟩ := dd.dictAt
  have hkeys : vs.map (·.1) = ks.map Sum.inl := rel.keys.symm.trans hks
  have hl : vs.length = ks.length := by simpa using congrArg List.length hkeys
  refine Calls.call_function_entry kind_sorted plain_sorted entry_sorted (args_sorted1 _) ?_
  unfold Builtin.«sorted»
  refine wpAny_bind (m := checkCount "sorted" 1 1 _) (wpAny_pure ?_)
  refine wpAny_bind (PySem.W.kdu_collect (A := X.A.in1) (PySem.W.kdl_dict (knd := mixKind X.prog X.w) (kvs := vs) (ep := ep) lo) (I.ok.hd hcalm) hat (by omega) fun h' tk acc hk hacc => ?_)
  have hal : acc.toList.length = ks.length := by rw [Array.length_toList, hacc.1, hl]
  have hS : IntsAre acc.toList ks := key_ints (P := X.prog) (w := X.w) hkeys hal fun j v e => hacc.2 j v (by rw [← Array.getElem?_toList]; exact e)
  have I1 : Inv X pins σ H { s with heap := h', toks := tk } := I.kept hk
  refine wpAny_bind (wpAny_newList ?_ (by omega))
  have ho : (h'.push (seqObj "list" acc.toList.toArray 0)).get? h'.objs.size = some (seqObj "list" acc.toList.toArray 0) := Heap.get?_push_size _ rfl
  show wpAny _ _ _ _ _ { s with heap := h'.push (seqObj "list" acc.toList.toArray 0), toks := tk }
  refine wpAny_bind (wpAny_holding (wpAny_call_entry slot_list_sort ⟨_, ho, rfl⟩ entry_list_sort (SrtO.list_sort_ord SrtO.swo_int ho (by omega) (fun h2 => SrtO.ints_sortable hS h2) fun out g1 g2 => ⟨_, rfl, ?_⟩) (args_list_sort _)))
  obtain ⟨k1, k2, k3⟩ := SrtO.ints_out hS g1 g2
  obtain ⟨e', he'⟩ := sortedHeap_at (vs := acc.toList) (out := out.toArray) ho
  have hz : ((out.map SrtO.iv).map V.int).length ≤ sizeLine := by rw [List.length_map, k2.length_eq]; exact hlen
  have old : ∀ b u, h'.get? b = some u → (sortedHeap (h'.push (seqObj "list" acc.toList.toArray 0)) h'.objs.size acc.toList out.toArray).get? b = some u := fun b u e => by
    have hb : b < h'.objs.size := Heap.lt_size e
    rw [sortedHeap_old (Nat.ne_of_lt hb) (by rw [size_push']; exact Nat.lt_succ_of_lt hb)]
    exact Heap.get?_push_of_some _ e
  exact wpAny_pure ⟨_, rfl, .ref h'.objs.size, upd H h'.objs.size (.lst ((out.map SrtO.iv).map V.int)), I1.laid (t' := tk) old (Nat.le_refl _) ⟨hz, out, e', vals_of_ints k1, he'⟩, rfl, q _ _ k2 k3 (I1.hok.fresh (Nat.le_refl _))⟩
end L2
namespace Dl
open PySem L2
def srtI (ns : List Int) : List Int := ns.mergeSort fun a b => decide (a ≤ b)
theorem srtI_perm (ns : List Int) : (srtI ns).Perm ns := List.mergeSort_perm _ _
theorem srtI_up (ns : List Int) : (srtI ns).Pairwise (· ≤ ·) := by
  have := List.pairwise_mergeSort (le := fun a b : Int => decide (a ≤ b)) (fun a b c h1 h2 => by simp at *; omega) (fun a b => by simp; omega) ns
  exact this.imp fun h => by simpa using h
theorem srtI_one {ns ys : List Int} (h1 : ys.Perm ns) (h2 : ys.Pairwise (· ≤ ·)) : ys = srtI ns :=
  List.Perm.eq_of_pairwise (le := (· ≤ ·)) (fun a b _ _ x y => Int.le_antisymm x y) h2 (srtI_up ns) (h1.trans (srtI_perm ns).symm)
def keyIs_ : List DK → Option (List Int)
  | [] => some []
  | .inl i :: r => (keyIs_ r).map (i :: ·)
  | _ => none
theorem keyIs_kS : ∀ {ks : List DK} {ns : List Int}, keyIs_ ks = some ns → ks.map kS = ns.map Sum.inl
  | [], ns, h => by simp only [keyIs_, Option.some.injEq] at h; subst h; rfl
  | .inl i :: r, ns, h => by
    simp only [keyIs_, Option.map_eq_some_iff] at h
    obtain ⟨m, h, rfl⟩ := h
    rw [List.map_cons, keyIs_kS h]; rfl
  | .inr _ :: _, _, h => by simp [keyIs_] at h
def fSrt : List D → GS → RE D := fun xs G => match xs with
  | [d] => match lstInts G d, (dicOf G d).bind fun p => keyIs_ p.1 with
    | some ns, _ => .ok (.lst ((srtI ns).map D.int)) G
    | none, some ns => if ns.length ≤ maxLine then .ok (.lst ((srtI ns).map D.int)) G else .bad
    | none, none => .bad
  | _ => .bad
section
variable {X : Cx} {W : WX}
theorem sv_srt : SrvC X (fun xs H Q => rSortedI X.K xs H Q ∨ rSrtDk xs H Q) fSrt := by
  intro W ρ G H xs dxs Q s r q
  unfold fSrt at q
  split at q
  · rename_i d
    obtain ⟨v, rfl, rv⟩ := rds1 r
    split at q
    · rename_i _ _ ns h
      obtain ⟨a, rfl, sq⟩ := lstInts_at s h rv
      exact .inl ⟨a, ns, rfl, sq, fun ns' p h1 h2 hp => by rw [srtI_one h1 h2]; exact lay_lst q s RDs.ints hp⟩
    · rename_i _ _ ns _ h
      rw [Option.bind_eq_some_iff] at h
      obtain ⟨⟨ks, ds⟩, h1, h2⟩ := h
      split at q
      · rename_i hl
        obtain ⟨a, kvs, rfl, hH, ek, rd⟩ := dicOf_at s h1 rv
        refine .inr ⟨a, kvs, ns, rfl, .inl hH, ek.trans (keyIs_kS h2), by rw [← maxLine_eq]; exact hl, fun ys p g1 g2 hp => ?_⟩
        rw [srtI_one g1 g2]
        exact lay_lst q s RDs.ints hp
      · exact q.elim
    · exact q.elim
  · exact q.elim
theorem cr_srt (hc : X.calm = true) : CallR X (.builtin "sorted") (fun xs H Q => rSortedI X.K xs H Q ∨ rSrtDk xs H Q) := CallR.or cr_sortedI (cr_srtDk hc)
end
end Dl
/-! comprehensions of two sources -/
namespace Dl
open PySem L2
section
variable {X : Cx} {W : WX}
/-- what stands still, a list or a tuple -/
def iSeqA (e : DE) : DI := fun σ G => bindE (e σ G) fun d G1 => match d with | .lst ds => .ok ds G1 | .tup ds => .ok ds G1 | _ => .bad
theorem le_iSA {tg e : Expr} {d : DE} (he : PEd X W e d) : PId X W tg e (iSeqA d) := by
  refine (pi_any he).le fun σ H R h => ?_
  have h0 := h
  obtain ⟨ρ, σd, G, c, h⟩ := h
  unfold iSeqA at h
  cases q : d σd G with
  | bad => rw [q] at h; exact h.elim
  | exc cc fs G1 =>
    refine .inl (iL_le σ H R ⟨ρ, σd, G, c, ?_⟩)
    unfold iSeqL
    rw [q] at h ⊢
    exact h
  | ok a G1 =>
    rw [q] at h
    cases a with
    | lst ds =>
      refine .inl (iL_le σ H R ⟨ρ, σd, G, c, ?_⟩)
      unfold iSeqL
      rw [q]
      exact h
    | tup ds =>
      refine .inr (.inl (iT_le σ H R ⟨ρ, σd, G, c, ?_⟩))
      unfold iSeqT
      rw [q]
      exact h
    | _ => exact h.elim
def lcK (n : Nat) (g : DG) (t : DT) (e : DE) (σ : PEnv) (k : GS → RE D) : List D → GS → RE D
  | [], G => k G
  | d :: ds, G => match g d σ with
    | some σ2 => bindN (t σ2 G) fun b G1 => if b = true then bindN (e σ2 G1) fun y G2 => match G2[n]? with
        | some (.lst acc) => if acc.length < maxLine then lcK n g t e σ k ds (G2.set n (.lst (acc ++ [y]))) else .bad
        | _ => .bad
      else lcK n g t e σ k ds G1
    | none => .bad
def lcL2 (n : Nat) (g : DG) (t : DT) (it1 : DI) (g1 : DG) (t1 : DT) (e : DE) (vs1 : List Nat) (σ : PEnv) : List D → GS → RE D
  | [], G => .ok (.ref n) G
  | d :: ds, G => match g d σ with
    | some σ2 => bindN (t σ2 G) fun b G1 => if b = true then bindN (it1 σ2 G1) fun ds1 G2 => lcK n g1 t1 e (wipeD σ2 vs1) (lcL2 n g t it1 g1 t1 e vs1 σ ds) ds1 G2
      else lcL2 n g t it1 g1 t1 e vs1 σ ds G1
    | none => .bad
def eLc2 (it : DI) (g : CG) (t : DT) (it1 : DI) (g1 : CG) (t1 : DT) (e : DE) (vs vs1 : List Nat) : DE := fun σ G => bindE (it σ G) fun ds G1 => lcL2 G1.length g.d t it1 g1.d t1 e vs1 (wipeD σ vs) ds (G1 ++ [.lst []])
theorem lc2_le {it it1 : DI} {g g1 : CG} {t t1 : DT} {e : DE} {vs vs1 : List Nat} (hv : ∀ i ∈ g.slots, i ∈ vs) (hv1 : ∀ i ∈ g1.slots, i ∈ vs1) (σ : L2.St) (H : Hp) (Q : VK) (h : tE X.K X.mg W (eLc2 it g t it1 g1 t1 e vs vs1) σ H Q) :
    tLc2 (tI X.K X.mg W it) (g.v X.K) (tT X.K X.mg WN t) (tI X.K X.mg WN it1) (g1.v X.K) (tT X.K X.mg WN t1) (tE X.K X.mg WN e) vs vs1 σ H Q := by
  obtain ⟨ρ, σd, G, c, h⟩ := h
  refine ⟨ρ, σd, G, c, (EP'.bind h).mono fun _ H1 _ _ J _ _ _ _ ⟨ρ1, G1, ds, e1, s1, w1, _, h1⟩ => fun D hD => ?_⟩
  obtain ⟨ep, sp⟩ := s1.push (o := .lst []) (ob := .lst []) hD fun ex => ⟨[], upd_same, rfl⟩
  have c1 := (c.ext e1 s1).wiped vs
  have hDn : (ρ1 ++ [D])[G1.length]? = some D := by rw [← s1.len, List.getElem?_append_right (Nat.le_refl _)]; simp
  let N2 : Nat → Hp → Prop := fun i H => ∃ ρ2 G2, Ext (ρ1 ++ [D]) (upd H1 D (.lst [])) ρ2 H ∧ RS X.K X.mg ρ2 G2 H ∧ EPD X.K X.mg (WA W σ) ρ2 H (lcL2 G1.length g.d t it1 g1.d t1 e vs1 (wipeD σd vs) (ds.drop i) G2) Q
  refine ⟨fun i m H => m = ds.length - i ∧ i ≤ ds.length ∧ N2 i H, ⟨ds.length, by simp, Nat.zero_le _, ρ1 ++ [D], G1 ++ [.lst []], .refl _ _, sp, by rw [List.drop_zero]; exact EP'.deeper ep h1⟩, ?_⟩
  rintro i m H2 ⟨rfl, hi, ρ2, G2, e2, s2, h2⟩
  obtain ⟨wstop, wgo⟩ := w1 i ρ2 G2 H2 (ep.trans e2) s2
  by_cases hlt : i < ds.length
  · obtain ⟨go, yl⟩ := wgo ds[i] (by simp [hlt])
    rw [List.drop_eq_getElem_cons hlt] at h2
    simp only [lcL2] at h2
    refine .inr ⟨go, N2 (i + 1), fun H' q => ⟨ds.length - (i + 1), by omega, rfl, hlt, q⟩, fun x H' y => ?_⟩
    obtain ⟨e3, s3, r3⟩ := yl x H' y
    have c3 : Ct X.K X.mg ρ2 (wipeD σd vs) G2 (wipe σ vs) H' := c1.ext ((ep.trans e2).trans e3) s3
    cases q : g.d ds[i] (wipeD σd vs) with
    | none => simp only [q] at h2; exact h2.elim
    | some σ2 =>
      simp only [q] at h2
      refine cg_ok hv q c3 r3 fun σ' c4 hw => ⟨by rw [hw]; exact wipe_wipe, ρ2, σ2, G2, c4, (EP'.bindN' (EP'.deeper e3 h2)).mono fun _ H5 _ _ b _ _ _ _ ⟨ρ5, G5, kk, e5, s5, d5, h5⟩ => ?_⟩
      subst d5
      have e05 := (e2.trans e3).trans e5
      cases kk with
      | false => exact ⟨ρ5, G5, e05, s5, h5⟩
      | true =>
        have c5 := c4.ext e5 s5
        refine ⟨ρ5, σ2, G5, c5, (EP'.bindN' h5).mono fun _ H6 _ _ J1 _ _ _ _ ⟨ρ6, G6, ds1, e6, s6, w6, h6⟩ => ?_⟩
        have c6 := (c5.ext e6 s6).wiped vs1
        have e06 := e05.trans e6
        refine ⟨fun j k H => k = ds1.length - j ∧ j ≤ ds1.length ∧ ∃ ρ7 G7, Ext ρ6 H6 ρ7 H ∧ RS X.K X.mg ρ7 G7 H ∧ EPD X.K X.mg (WA W σ) ρ7 H (lcK G1.length g1.d t1 e (wipeD σ2 vs1) (lcL2 G1.length g.d t it1 g1.d t1 e vs1 (wipeD σd vs) (ds.drop (i + 1))) (ds1.drop j) G7) Q,
          ⟨ds1.length, by simp, Nat.zero_le _, ρ6, G6, .refl _ _, s6, by rw [List.drop_zero]; exact h6⟩, ?_⟩
        rintro j k H7 ⟨rfl, hj, ρ7, G7, e7, s7, h7⟩
        obtain ⟨wstop1, wgo1⟩ := w6 j ρ7 G7 H7 e7 s7
        by_cases hjt : j < ds1.length
        · obtain ⟨go1, yl1⟩ := wgo1 ds1[j] (by simp [hjt])
          rw [List.drop_eq_getElem_cons hjt] at h7
          simp only [lcK] at h7
          refine .inr ⟨go1, fun H' => ∃ ρ7 G7, Ext ρ6 H6 ρ7 H' ∧ RS X.K X.mg ρ7 G7 H' ∧ EPD X.K X.mg (WA W σ) ρ7 H' (lcK G1.length g1.d t1 e (wipeD σ2 vs1) (lcL2 G1.length g.d t it1 g1.d t1 e vs1 (wipeD σd vs) (ds.drop (i + 1))) (ds1.drop (j + 1)) G7) Q,
            fun H' q => ⟨ds1.length - (j + 1), by omega, rfl, hjt, q⟩, fun x1 H' y1 => ?_⟩
          obtain ⟨e8, s8, r8⟩ := yl1 x1 H' y1
          have c8 : Ct X.K X.mg ρ7 (wipeD σ2 vs1) G7 (wipe σ' vs1) H' := c6.ext (e7.trans e8) s8
          cases q1 : g1.d ds1[j] (wipeD σ2 vs1) with
          | none => simp only [q1] at h7; exact h7.elim
          | some σ3 =>
            simp only [q1] at h7
            refine cg_ok hv1 q1 c8 r8 fun σ'' c9 hw1 => ⟨by rw [hw1]; exact wipe_wipe, ρ7, σ3, G7, c9, (EP'.bindN' (EP'.deeper e8 h7)).mono fun _ H9 _ _ b1 _ _ _ _ ⟨ρ9, G9, kk1, e9, s9, d9, h9⟩ => ?_⟩
            subst d9
            have e09 := (e7.trans e8).trans e9
            cases kk1 with
            | false => exact ⟨ρ9, G9, e09, s9, h9⟩
            | true =>
              refine ⟨ρ9, σ3, G9, c9.ext e9 s9, (EP'.bindN' h9).mono fun _ HA _ _ y _ _ _ _ ⟨ρA, GA, aA, eA, sA, dA, hA⟩ => ?_⟩
              have eall := (e06.trans e09).trans eA
              cases gq : GA[G1.length]? with
              | none => simp only [gq] at hA; exact hA.elim
              | some ob =>
                cases ob with
                | ins _ _ => simp only [gq] at hA; exact hA.elim
                | dcT _ _ => simp only [gq] at hA; exact hA.elim
                | dic _ _ => simp only [gq] at hA; exact hA.elim
                | lst acc =>
                  simp only [gq] at hA
                  have hD6 := eall.get hDn
                  obtain ⟨vs6, hv6, rv6⟩ := sA.at_ _ D _ hD6 gq
                  by_cases hl : acc.length < maxLine
                  · rw [if_pos hl] at hA
                    refine ⟨vs6, hv6, by rw [← rv6.length, ← maxLine_eq]; exact hl, ?_⟩
                    obtain ⟨eB, sB⟩ := sA.write (o := .lst (vs6 ++ [y])) (ob := .lst (acc ++ [aA])) hD6 fun ex => ⟨_, upd_same, (rv6.ext ex).append (RDs.cons (dA.ext ex) RDs.nil)⟩
                    exact ⟨ρA, _, (e09.trans eA).trans eB, sB, EP'.deeper eB hA⟩
                  · rw [if_neg hl] at hA; exact hA.elim
        · have ej : j = ds1.length := by omega
          subst ej
          rw [List.drop_length] at h7
          exact .inl ⟨wstop1 (Nat.le_refl _), ρ7, G7, e06.trans e7, s7, h7⟩
  · have ei : i = ds.length := by omega
    subst ei
    rw [List.drop_length] at h2
    exact .inl ⟨wstop (Nat.le_refl _), h2 ρ2 H2 _ (.refl _ _) s2 ⟨D, e2.get hDn, rfl⟩⟩
section
variable {elt tg iter tg1 iter1 : Expr} {ifs ifs1 : List Expr} {scope : Scope} {own : List (Str × Nat)} {vs1 : List Nat} {pos spos : Pos} {it it1 : DI} {g g1 : CG} {t t1 : DT} {e : DE}
theorem le_lc2 (hc : X.calm = true) (hN : X.N.Nodup) (hi : PId X W tg iter it) (ok : BlkOk X.N X.env.scope scope own) (hv : ∀ i ∈ g.slots, i ∈ own.map (·.2)) (hv1 : ∀ i ∈ g1.slots, i ∈ vs1) (hv2 : ∀ i ∈ vs1, i ∈ own.map (·.2))
    (hg : ∀ (s : Shared) (H : Hp) (C : Addr) (cl : List (Str × Addr)) (fp : List Addr), PG (X.blk s H scope (compEnvC scope cl C X.env) fp) tg (g.v X.K)) (ht : ∀ (s : Shared) (H : Hp) (C : Addr) (cl : List (Str × Addr)) (fp : List Addr), PTs (X.blk s H scope (compEnvC scope cl C X.env) fp) ifs (tT X.K X.mg WN t))
    (hi1 : ∀ (s : Shared) (H : Hp) (C : Addr) (cl : List (Str × Addr)) (fp : List Addr), PId (X.blk s H scope (compEnvC scope cl C X.env) fp) WN tg1 iter1 it1)
    (hg1 : ∀ (s : Shared) (H : Hp) (C : Addr) (cl : List (Str × Addr)) (fp : List Addr), PG (X.blk s H scope (compEnvC scope cl C X.env) fp) tg1 (g1.v X.K)) (ht1 : ∀ (s : Shared) (H : Hp) (C : Addr) (cl : List (Str × Addr)) (fp : List Addr), PTs (X.blk s H scope (compEnvC scope cl C X.env) fp) ifs1 (tT X.K X.mg WN t1))
    (he : ∀ (s : Shared) (H : Hp) (C : Addr) (cl : List (Str × Addr)) (fp : List Addr), PEd (X.blk s H scope (compEnvC scope cl C X.env) fp) WN elt e) (hs : ∀ x, foldedSetIterable iter X.env x = pure x := by intro _; rfl) (hs1 : ∀ env x, foldedSetIterable iter1 env x = pure x := by intro _ _; rfl) :
    PEd X W (.ListComp elt [⟨tg, iter, ifs, 0⟩, ⟨tg1, iter1, ifs1, 0⟩] scope pos) (eLc2 it g t it1 g1 t1 e (own.map (·.2)) vs1) :=
  (pe_lc2 hc hN hi ok hv2 hg ht hi1 hg1 ht1 he hs hs1).le fun σ H Q h => lc2_le hv hv1 σ H Q h
theorem le_setLc2S {i : Nat} {y : Str} {py : Pos} (hc : X.calm = true) (hN : X.N.Nodup) (hi : PId X W tg iter it) (ok : BlkOk X.N X.env.scope scope own) (hv : ∀ i ∈ g.slots, i ∈ own.map (·.2)) (hv1 : ∀ i ∈ g1.slots, i ∈ vs1) (hv2 : ∀ i ∈ vs1, i ∈ own.map (·.2))
    (hsw : swapsWith (.ListComp elt [⟨tg, iter, ifs, 0⟩, ⟨tg1, iter1, ifs1, 0⟩] scope pos) (some (.Name y py)) spos.line X.env = pure true)
    (hg : ∀ (s : Shared) (H : Hp) (C : Addr) (cl : List (Str × Addr)) (fp : List Addr), PG (X.blk s H scope (compEnvC scope cl C X.env) fp) tg (g.v X.K)) (ht : ∀ (s : Shared) (H : Hp) (C : Addr) (cl : List (Str × Addr)) (fp : List Addr), PTs (X.blk s H scope (compEnvC scope cl C X.env) fp) ifs (tT X.K X.mg WN t))
    (hi1 : ∀ (s : Shared) (H : Hp) (C : Addr) (cl : List (Str × Addr)) (fp : List Addr), PId (X.blk s H scope (compEnvC scope cl C X.env) fp) WN tg1 iter1 it1)
    (hg1 : ∀ (s : Shared) (H : Hp) (C : Addr) (cl : List (Str × Addr)) (fp : List Addr), PG (X.blk s H scope (compEnvC scope cl C X.env) fp) tg1 (g1.v X.K)) (ht1 : ∀ (s : Shared) (H : Hp) (C : Addr) (cl : List (Str × Addr)) (fp : List Addr), PTs (X.blk s H scope (compEnvC scope cl C X.env) fp) ifs1 (tT X.K X.mg WN t1))
    (he : ∀ (s : Shared) (H : Hp) (C : Addr) (cl : List (Str × Addr)) (fp : List Addr), PEd (X.blk s H scope (compEnvC scope cl C X.env) fp) WN elt e) (hs : ∀ x, foldedSetIterable iter X.env x = pure x := by intro _; rfl) (hs1 : ∀ env x, foldedSetIterable iter1 env x = pure x := by intro _ _; rfl)
    (hy : X.N[i]? = some y := by rfl) (hyl : X.env.scope.names.lookup y = some .local := by rfl) :
    PSd X W (.Assign [.Name y py] (.ListComp elt [⟨tg, iter, ifs, 0⟩, ⟨tg1, iter1, ifs1, 0⟩] scope pos) spos) (sAsg i (eSeal (eLc2 it g t it1 g1 t1 e (own.map (·.2)) vs1))) :=
  (ps_setLc2 hc hN hy hyl hsw hi ok hv2 hg ht hi1 hg1 ht1 he hs hs1).le fun Dn σ H h => lc2_le hv hv1 σ H _ (seal_le σ H _ (asg_le h))
end
/-- x, y = a, b -/
def parR (xs : List D) (i j : Nat) (σ : PEnv) (G : GS) : RSt := match xs with | [x, y] => .nx ((σ.set i (some x)).set j (some y)) G | _ => .bad
def sPar (i j : Nat) (a : DA) : DS := fun σ G => bindS (a σ G) σ fun xs G1 => parR xs i j σ G1
theorem le_par {i j : Nat} {x y : Str} {a b : Expr} {da : DA} {px py pt pos : Pos} {kt k2 pt2} (hc : X.calm = true) (hN : X.N.Nodup) (hij : i ≠ j) (ha : PAd X W [a, b] da)
    (hw : swappedStores [.Tuple [.Name x px, .Name y py] kt pt] (.Tuple [a, b] k2 pt2) X.env = pure (some [x, y])) (hi : X.N[i]? = some x := by rfl) (hj : X.N[j]? = some y := by rfl)
    (hx : X.env.scope.names.lookup x = some .local := by rfl) (hy : X.env.scope.names.lookup y = some .local := by rfl)
    (hs : swapsWithSole [.Tuple [.Name x px, .Name y py] kt pt] (.Tuple [a, b] k2 pt2) pos.line X.env = pure false := by rfl) :
    PSd X W (.Assign [.Tuple [.Name x px, .Name y py] kt pt] (.Tuple [a, b] k2 pt2) pos) (sPar i j da) := by
  refine (ps_par hc hN hi hj hij hx hy ha hw hs).le fun Dn σ H ⟨ρ, σd, G, c, h⟩ => ⟨ρ, σd, G, c, (SPst.bind c h).mono fun _ _ _ _ vs _ _ _ _ ⟨ρ1, G1, xs, e1, c1, d1, h1⟩ => ?_⟩
  unfold parR at h1
  split at h1
  · obtain ⟨v, w, rfl, r1, r2⟩ := rds2 d1
    exact ⟨v, w, rfl, h1 _ _ _ (.refl _ _) ((c1.set r1).set r2)⟩
  · exact h1.elim
theorem wS_par {i j : Nat} {a : DA} {σ : PEnv} {G : GS} {P : Po} : wS (sPar i j a σ G) P = wE (a σ G) (fun c fs G1 => P.ex c fs σ G1) fun xs G1 => wS (parR xs i j σ G1) P := by unfold sPar; rw [wS_bind]
theorem wS_parR {i j : Nat} {x y : D} {σ : PEnv} {G : GS} {P : Po} : wS (parR [x, y] i j σ G) P = P.nx ((σ.set i (some x)).set j (some y)) G := id rfl
end
end Dl
namespace Dl
open PySem L2
section
variable {σ : PEnv} {G : GS} {E : EK} {Q : D → GS → Prop} {α : Type}
/-- a comprehension that stays open, over what stands still -/
theorem wp_openA {it : DE} {g : CG} {t : DT} {e : DE} {vs : List Nat} (xs : List α) (enc : α → D) (f : α → Option D) (h : wE (it σ G) E fun d G1 => G1 = G ∧ (d = .lst (xs.map enc) ∨ d = .tup (xs.map enc)) ∧ xs.length ≤ maxLine ∧
      (∀ x ∈ xs, stepOk G g t e vs σ (enc x) (f x)) ∧ Q (.ref G.length) (G ++ [.lst (xs.filterMap f)])) : wE (eLcA it g t e vs σ G) E Q := by
  rw [wE_lcA]
  refine wE_mono h (fun d G1 h => ?_) fun _ _ _ z => z
  obtain ⟨rfl, hd, hl, hs, hQ⟩ := h
  have key : wE (lcL G1.length g.d t e (wipeD σ vs) (xs.map enc) (G1 ++ [.lst []])) E Q := by
    refine wp_lcL (fun i acc G' => acc = (xs.take i).filterMap f ∧ G' = G1) (xs.map enc) 0 [] G1 rfl ⟨rfl, rfl⟩ (fun j d acc G' hd hl' ⟨ha, hG⟩ => ?_) (fun acc G' hn' ⟨ha, hG⟩ => ?_)
    · subst hG
      rw [Nat.zero_add] at ha ⊢
      rw [List.getElem?_map, Option.map_eq_some_iff] at hd
      obtain ⟨x, hx, rfl⟩ := hd
      have hj : j < xs.length := (List.getElem?_eq_some_iff.mp hx).1
      have tk : xs.take (j + 1) = xs.take j ++ [x] := by rw [List.take_succ, hx]; rfl
      have h := hs x (List.mem_of_getElem? hx) acc
      unfold asgW at h ⊢
      cases q : g.d (enc x) (wipeD σ vs) with
      | none => rw [q] at h; exact h
      | some σ2 =>
        rw [q] at h
        refine wE_mono h (fun k G2 h => ?_) fun _ _ _ z => z
        cases k with
        | false =>
          simp only [Bool.false_eq_true, if_false] at h ⊢
          exact ⟨G', h.1, rfl, by rw [tk, List.filterMap_append, ha]; simp [h.2], rfl⟩
        | true =>
          simp only [if_true] at h ⊢
          refine wE_mono h (fun y G2 h => ?_) fun _ _ _ z => z
          refine ⟨?_, G', h.1, rfl, by rw [tk, List.filterMap_append, ha]; simp [h.2], rfl⟩
          have := List.length_filterMap_le f (xs.take j)
          rw [← ha, List.length_take] at this
          omega
    · subst hG
      rw [Nat.zero_add, List.length_map, List.take_length] at ha
      subst ha
      exact hQ
  rcases hd with rfl | rfl <;> exact key
/-- a comprehension whose elements change what is ahead, closed -/
theorem wp_sealF {it : DE} {g : CG} {t : DT} {e : DE} {vs : List Nat} (Inv : Nat → List D → GS → Prop) (xs : List D) (h : wE (it σ G) E fun d G1 => G1 = G ∧ (d = .lst xs ∨ d = .tup xs) ∧ Inv 0 [] G ∧
      (∀ (j : Nat) (d : D) (acc : List D) (G' : GS), xs[j]? = some d → G'.length = G.length → Inv j acc G' → asgW (g.d d (wipeD σ vs)) fun σ2 => wE (t σ2 (G' ++ [.lst acc])) never fun k G1 =>
        if k = true then wE (e σ2 G1) never fun y G2 => acc.length < maxLine ∧ ∃ G3, G2 = G3 ++ [.lst acc] ∧ G3.length = G.length ∧ Inv (j + 1) (acc ++ [y]) G3 else ∃ G3, G1 = G3 ++ [.lst acc] ∧ G3.length = G.length ∧ Inv (j + 1) acc G3) ∧
      (∀ acc G', G'.length = G.length → Inv xs.length acc G' → nrDs acc = true ∧ nrG G' = true ∧ Q (.lst acc) G')) : wE (eSeal (eLcA it g t e vs) σ G) E Q := by
  rw [wE_seal, wE_lcA]
  refine wE_mono h (fun d G1 h => ?_) fun _ _ _ z => z
  obtain ⟨rfl, hd, h0, st, fin⟩ := h
  have key : wE (lcL G1.length g.d t e (wipeD σ vs) xs (G1 ++ [.lst []])) E fun a G' => wE (finish subD G1 a G' .ok) E Q := by
    refine wp_lcL Inv xs 0 [] G1 rfl h0 (fun j d acc G' hd hl hi => ?_) (fun acc G' hn hi => ?_)
    · rw [Nat.zero_add] at hi ⊢
      exact st j d acc G' hd hl hi
    · rw [Nat.zero_add] at hi
      obtain ⟨h1, h2, h3⟩ := fin acc G' hn hi
      rw [fin_ref (t := []) h1 hn h2]
      exact h3
  rcases hd with rfl | rfl <;> exact key
end
/-- a walk along an open list that stands still -/
theorem wp_forR {g : DG} {b : DS} {P : Po} {m : Nat} {ds : List D} (Inv : Nat → PEnv → GS → Prop) (hl : ds.length < 1000000) (hst : ∀ j σ G, Inv j σ G → G[m]? = some (.lst ds))
    (st : ∀ (j : Nat) (d : D) (σ : PEnv) (G : GS), ds[j]? = some d → Inv j σ G → asgW (g d σ) fun σ1 => wS (b σ1 G) ⟨Inv (j + 1), P.rt, P.nx, Inv (j + 1), P.ex⟩)
    (fin : ∀ σ G, Inv ds.length σ G → P.nx σ G) {σ : PEnv} {G : GS} (h0 : Inv 0 σ G) : wS (forA g b (.ref m) σ G) P := by
  have key : ∀ (k i n : Nat) (σ : PEnv) (G : GS), i + k = ds.length → k < n → Inv i σ G → wS (forR g b m n i σ G) P := by
    intro k
    induction k with
    | zero =>
      intro i n σ G hi hn hI
      cases n with
      | zero => exact absurd hn (Nat.not_lt_zero _)
      | succ n =>
        have e2 : ds[i]? = none := List.getElem?_eq_none (by omega)
        have hI' : Inv ds.length σ G := by rw [← hi, Nat.add_zero]; exact hI
        rw [forR]
        simp only [hst i σ G hI, e2]
        exact fin σ G hI'
    | succ k ih =>
      intro i n σ G hi hn hI
      cases n with
      | zero => exact absurd hn (Nat.not_lt_zero _)
      | succ n =>
        have hlt : i < ds.length := by omega
        have e2 : ds[i]? = some ds[i] := List.getElem?_eq_getElem hlt
        have h := st i _ σ G e2 hI
        rw [forR]
        simp only [hst i σ G hI, e2]
        unfold asgW at h
        cases q : g ds[i] σ with
        | none => rw [q] at h; exact h.elim
        | some σ1 =>
          rw [q] at h
          simp only at h ⊢
          have go : ∀ σ' G', Inv (i + 1) σ' G' → wS (forR g b m n (i + 1) σ' G') P := fun σ' G' hI' => ih (i + 1) n σ' G' (by omega) (by omega) hI'
          unfold wS at h
          cases e : b σ1 G with
          | nx σ' G' => rw [e] at h; exact go σ' G' h
          | cont σ' G' => rw [e] at h; exact go σ' G' h
          | brk σ' G' => rw [e] at h; exact h
          | ret d G' => rw [e] at h; exact h
          | exc c fs σ' G' => rw [e] at h; exact h
          | bad => rw [e] at h; exact h.elim
  exact key ds.length 0 fuel σ G (by omega) hl h0
/-! ## {k: v}, sorted -/
theorem wE_disp1 {k v : DE} {σ : PEnv} {G : GS} {E : EK} {Q : D → GS → Prop} (kd vd : D) (kk : DK) (hk : k σ (G ++ [.dic [] []]) = .ok kd (G ++ [.dic [] []])) (hv : v σ (G ++ [.dic [] []]) = .ok vd (G ++ [.dic [] []])) (hkd : keyD kd = some kk)
    (h : Q (.ref G.length) (G ++ [.dic [kk] [vd]])) : wE (eDisp [(k, v)] σ G) E Q := by
  unfold eDisp
  rw [wE_bind]
  simp only [pairsD, hk, hv, bindE_ok, wE_ok, get_new, keysD, hkd]
  rw [if_pos (by simp), set_new]
  exact h
theorem fSrt_ints {l : List Int} {G : GS} : fSrt [.lst (l.map D.int)] G = .ok (.lst ((srtI l).map D.int)) G := by
  simp only [fSrt, lstInts, lstOf, Option.bind_some, intsD_ints]
theorem keyIs_map : ∀ (l : List Int), keyIs_ (l.map Sum.inl) = some l
  | [] => rfl
  | a :: l => by simp only [List.map_cons, keyIs_, keyIs_map l, Option.map_some]
theorem fSrt_dic {l : List Int} {ds : List D} {n : Nat} {G : GS} (h : G[n]? = some (.dic (l.map Sum.inl) ds)) (hl : l.length ≤ 16777216) : fSrt [.ref n] G = .ok (.lst ((srtI l).map D.int)) G := by
  simp only [fSrt, lstInts, lstOf, dicOf, h, Option.bind_none, Option.bind_some, keyIs_map]
  rw [if_pos (le_line hl)]
/-! ## whole comprehensions of two sources -/
section
variable {σ : PEnv} {G : GS} {E : EK} {Q : D → GS → Prop} {α β : Type}
theorem lcK_all {g : DG} {e : DE} {σ : PEnv} {k : GS → RE D} {n : Nat} (ys : List β) (enc : β → D) (f : β → D) (hn : G.length = n) : ∀ (acc : List D), acc.length + ys.length ≤ maxLine →
    (∀ (y : β) (acc : List D), y ∈ ys → ∃ σ2, g (enc y) σ = some σ2 ∧ e σ2 (G ++ [.lst acc]) = .ok (f y) (G ++ [.lst acc])) → lcK n g dYes e σ k (ys.map enc) (G ++ [.lst acc]) = k (G ++ [.lst (acc ++ ys.map f)]) := by
  induction ys with
  | nil => intro acc _ _; simp [lcK]
  | cons y ys ih =>
    intro acc hl st
    obtain ⟨σ2, h1, h2⟩ := st y acc List.mem_cons_self
    rw [List.map_cons, lcK, h1]
    simp only [dYes, bindN_ok, if_true, h2]
    have e1 : (G ++ [Ob.lst acc])[n]? = some (.lst acc) := by rw [← hn]; exact get_new
    have e2 : (G ++ [Ob.lst acc]).set n (.lst (acc ++ [f y])) = G ++ [.lst (acc ++ [f y])] := by rw [← hn]; exact set_new
    rw [List.length_cons] at hl
    simp only [e1, show acc.length < maxLine by omega, if_true, e2]
    rw [ih (acc ++ [f y]) (by simp; omega) fun y' acc' hy => st y' acc' (List.mem_cons_of_mem _ hy)]
    simp
theorem lcL2_all {it1 : DI} {g g1 : DG} {e : DE} {vs1 : List Nat} {σ : PEnv} {n : Nat} (xs : List α) (enc : α → D) (ys : α → List β) (enc1 : β → D) (f : α → β → D) (hn : G.length = n) : ∀ (acc : List D), acc.length + (xs.flatMap ys).length ≤ maxLine →
    (∀ (x : α) (acc : List D), x ∈ xs → ∃ σ2, g (enc x) σ = some σ2 ∧ it1 σ2 (G ++ [.lst acc]) = .ok ((ys x).map enc1) (G ++ [.lst acc]) ∧
      ∀ (y : β) (acc : List D), y ∈ ys x → ∃ σ3, g1 (enc1 y) (wipeD σ2 vs1) = some σ3 ∧ e σ3 (G ++ [.lst acc]) = .ok (f x y) (G ++ [.lst acc])) →
    lcL2 n g dYes it1 g1 dYes e vs1 σ (xs.map enc) (G ++ [.lst acc]) = .ok (.ref n) (G ++ [.lst (acc ++ xs.flatMap fun x => (ys x).map (f x))]) := by
  induction xs with
  | nil => intro acc _ _; simp [lcL2]
  | cons x xs ih =>
    intro acc hl st
    obtain ⟨σ2, h1, h2, h3⟩ := st x acc List.mem_cons_self
    rw [List.map_cons, lcL2, h1]
    simp only [dYes, bindN_ok, if_true, h2]
    rw [List.flatMap_cons, List.length_append] at hl
    rw [lcK_all (ys x) enc1 (f x) hn acc (by omega) h3]
    rw [ih _ (by rw [List.length_append, List.length_map]; omega) fun x' acc' hx => st x' acc' (List.mem_cons_of_mem _ hx)]
    simp
theorem wp_seal2 {it it1 : DI} {g g1 : CG} {e : DE} {vs vs1 : List Nat} (xs : List α) (enc : α → D) (ys : α → List β) (enc1 : β → D) (f : α → β → D) (h : wE (it σ G) E fun ds G1 => G1 = G ∧ ds = xs.map enc ∧ (xs.flatMap ys).length ≤ maxLine ∧
      (∀ (x : α) (acc : List D), x ∈ xs → ∃ σ2, g.d (enc x) (wipeD σ vs) = some σ2 ∧ it1 σ2 (G ++ [.lst acc]) = .ok ((ys x).map enc1) (G ++ [.lst acc]) ∧
        ∀ (y : β) (acc : List D), y ∈ ys x → ∃ σ3, g1.d (enc1 y) (wipeD σ2 vs1) = some σ3 ∧ e σ3 (G ++ [.lst acc]) = .ok (f x y) (G ++ [.lst acc])) ∧
      (∀ x ∈ xs, ∀ y ∈ ys x, nrD (f x y) = true) ∧ Q (.lst (xs.flatMap fun x => (ys x).map (f x))) G) : wE (eSeal (eLc2 it g dYes it1 g1 dYes e vs vs1) σ G) E Q := by
  rw [wE_seal]
  unfold eLc2
  rw [wE_bind]
  refine wE_mono h (fun ds G1 h => ?_) fun _ _ _ z => z
  obtain ⟨rfl, rfl, hl, st, hn, hQ⟩ := h
  rw [lcL2_all xs enc ys enc1 f rfl [] (by simpa using hl) st, wE_ok, List.nil_append, fin_new]
  · exact hQ
  · rw [nrDs_all]
    intro d hd
    obtain ⟨x, hx, hd⟩ := List.mem_flatMap.mp hd
    obtain ⟨y, hy, rfl⟩ := List.mem_map.mp hd
    exact hn x hx y hy
def seqA (d : D) (G : GS) : RE (List D) := match d with | .lst ds => .ok ds G | .tup ds => .ok ds G | _ => .bad
theorem wE_iSA {e : DE} {E : EK} {Q : List D → GS → Prop} : wE (iSeqA e σ G) E Q = wE (e σ G) E fun d G1 => wE (seqA d G1) E Q := by unfold iSeqA; rw [wE_bind]; rfl
theorem seqA_lst {ds : List D} : seqA (.lst ds) G = .ok ds G := id rfl
theorem seqA_tup {ds : List D} : seqA (.tup ds) G = .ok ds G := id rfl
end
/-! ## dicts with whole numbers for keys -/
theorem lookK_I (g : Int → D) (k : Int) : ∀ (l : List Int), lookK (.inl k) (l.map Sum.inl) (l.map g) = if k ∈ l then some (g k) else none
  | [] => rfl
  | a :: l => by
    simp only [List.map_cons, lookK]
    rw [lookK_I g k l]
    by_cases h : a = k
    · subst h; simp
    · have : ¬ (Sum.inl a : DK) = Sum.inl k := fun z => h (by injection z)
      have h' : ¬ k = a := fun z => h z.symm
      simp [this, h']
theorem setKs_I (g : Int → D) (k : Int) (v : D) : ∀ (l : List Int), setKs (.inl k) v (l.map Sum.inl) (l.map g) = l.map fun e => if e = k then v else g e
  | [] => rfl
  | a :: l => by
    simp only [List.map_cons, setKs, setKs_I g k v l]
    congr 1
    by_cases h : a = k
    · subst h; simp
    · have : ¬ (Sum.inl a : DK) = Sum.inl k := fun z => h (by injection z)
      simp [this, h]
def addK (l : List Int) (k : Int) : List Int := if k ∈ l then l else l ++ [k]
theorem putK_I (g : Int → D) (k : Int) (v : D) (l : List Int) : putKs (.inl k) v (l.map Sum.inl) (l.map g) = ((addK l k).map Sum.inl, (addK l k).map fun e => if e = k then v else g e) := by
  unfold putKs addK
  by_cases h : k ∈ l
  · have : ((l.map (Sum.inl : Int → DK)).any fun x => decide (x = .inl k)) = true := by
      rw [List.any_eq_true]
      exact ⟨_, List.mem_map.mpr ⟨k, h, rfl⟩, by simp⟩
    rw [this, if_pos rfl, if_pos h, setKs_I]
  · have : ((l.map (Sum.inl : Int → DK)).any fun x => decide (x = .inl k)) = false := by
      rw [List.any_eq_false]
      intro x hx
      obtain ⟨j, hj, rfl⟩ := List.mem_map.mp hx
      simp only [decide_eq_true_eq]
      exact fun z => h (by injection z with z; exact z ▸ hj)
    rw [this, if_neg Bool.false_ne_true, if_neg h]
    simp only [List.map_append, List.map_cons, List.map_nil, if_true]
    congr 2
    apply List.map_congr_left
    intro e he
    rw [if_neg]
    exact fun z => h (z ▸ he)
section
variable {G : GS} {lo hi : Option Int}
theorem bSl_str {s : List Nat} : bSl (.str s) lo hi G = if s.length ≤ maxLine then .ok (.str (cutL s lo hi)) G else .bad := id rfl
theorem bSl_tup {ds : List D} : bSl (.tup ds) lo hi G = .ok (.tup (cutL ds lo hi)) G := id rfl
theorem bSl_lst {ds : List D} : bSl (.lst ds) lo hi G = .ok (.lst (cutL ds lo hi)) G := id rfl
end
theorem fin_newAt {β : Type} {G t : GS} {ds : List D} {n : Nat} {k : D → GS → RE β} (h : nrDs ds = true) (hn : G.length ≤ n) (ht : (G ++ t)[n]? = some (.lst ds)) : finish subD G (.ref n) (G ++ t) k = k (.lst ds) G := by
  unfold finish
  have hlt : n < (G ++ t).length := (List.getElem?_eq_some_iff.mp ht).1
  have e : ¬ (G ++ t).length = G.length := by omega
  have e2 : (G ++ t).take G.length = G := List.take_left
  rw [if_neg e, e2, if_pos (by rw [beqG_refl, Bool.true_or])]
  have e4 : subD (sealR 6 G.length (G ++ t)) (.ref n) = some (.lst ds) := by
    simp only [subD, sealR, Nat.not_lt.mpr hn, if_false, ht, subDs_nr h, Option.map_some]
  rw [e4]
end Dl
namespace Dl
open PySem L2
section
variable {X : Cx}
/-- +, of two tuples too -/
def bAddT : D → D → GS → RE D := fun x y G => match x, y with
  | .tup a, .tup b => if a.length + b.length ≤ maxLine then .ok (.tup (a ++ b)) G else .bad
  | x, y => bAdd x y G
def rAddT (K : PySem.W.Frag) : R2 := fun x y H Q => rAddA x y H Q ∨ rCatA K x y H Q
theorem op_addT : OpR X (binaryOp .Add) (rAddT X.K) := op_addA.or op_catA
theorem sv_addT : Srv2 X (rAddT X.K) bAddT := by
  intro W ρ G H x y dx dy Q s rx ry q
  unfold bAddT at q
  split at q
  · rename_i a b
    split at q
    · rename_i c
      obtain ⟨p, xs, rfl, t1, r1⟩ := id rx
      obtain ⟨p2, ys, rfl, t2, r2⟩ := id ry
      have l1 := r1.length
      have l2 := r2.length
      refine .inr ⟨p, p2, xs, ys, rfl, rfl, t1.sq, t2.sq, by rw [← r1.length, ← r2.length, ← maxLine_eq]; exact c, fun e => ?_, fun _ e => ?_, fun _ _ l hl => ?_⟩
      · subst e
        have ha : a = [] := List.length_eq_zero_iff.mp l1
        subst ha
        exact now q s ry
      · subst e
        have hb : b = [] := List.length_eq_zero_iff.mp l2
        subst hb
        rw [List.append_nil] at q
        exact now q s rx
      · obtain ⟨e, s'⟩ := s.lay (.tup (xs ++ ys)) hl
        exact q _ _ _ e s' ⟨l, _, rfl, .inl ⟨.inl upd_same, s.fresh hl⟩, (r1.append r2).ext e⟩
    · exact q.elim
  · exact .inl (sv_add W ρ G H x y _ _ Q s rx ry q)
theorem bAddT_int {i j : Int} {G : GS} : bAddT (.int i) (.int j) G = .ok (.int (i + j)) G := rfl
theorem bAddT_tup {a b : List D} {G : GS} : bAddT (.tup a) (.tup b) G = if a.length + b.length ≤ maxLine then .ok (.tup (a ++ b)) G else .bad := rfl
end
theorem cut_ends {α : Type} (l : List α) : cutL l none (some (-1)) = l.dropLast := by
  unfold cutL
  have h : HT.sIx l.length l.length (some (-1)) = l.length - 1 := by
    unfold HT.sIx
    simp
    omega
  rw [HT.sIx_none, h, List.drop_zero, Nat.sub_zero, List.dropLast_eq_take]
theorem ixL_end {ds : List D} {d : D} {G : GS} : ixL (ds ++ [d]) (-1) G = .ok d G := by
  simp only [ixL]
  have : atI (ds ++ [d]) (-1) = some d := by
    unfold atI ixN
    simp
    rw [if_pos (by omega), show (-1 + ((ds.length : Int) + 1)).toNat = ds.length by omega]
    simp
  rw [this]
  rfl
end Dl
namespace Dl
open PySem L2
/-! ## try: .. except C as e: .. (the suite says nothing of e) -/
def endTry (i : Nat) (r : RSt) : RSt := match r with
  | .nx σ G => .nx (σ.set i none) G
  | .brk σ G => .brk (σ.set i none) G
  | .cont σ G => .cont (σ.set i none) G
  | .ret d G => .ret d G
  | _ => .bad
def sTry (c : Str) (i : Nat) (b h : DS) : DS := fun σ G => match b σ G with
  | .exc c' _ σ1 G1 => if c' = c then endTry i (h (σ1.set i none) G1) else .bad
  | r => r
theorem Ct.hide {K : PySem.W.Frag} {mg : MG} {ρ : List Addr} {σd : PEnv} {G : GS} {σ : L2.St} {H : Hp} (c : Ct K mg ρ σd G σ H) (i : Nat) (v : Option V) : Ct K mg ρ (σd.set i none) G (σ.set i v) H := by
  refine ⟨c.rs, by simp [c.len], fun j d h => ?_⟩
  by_cases hij : i = j
  · subst hij
    rw [List.getElem?_set] at h
    simp at h
  · rw [List.getElem?_set_ne hij] at h ⊢
    exact c.at_ j d h
section
variable {X : Cx} {W : WX}
theorem le_try {c n : Str} {i : Nat} {body suite : List Stmt} {b₀ : Stmt} {np pos pos' : Pos} {db dh : DS}
    (hs : X.stack = X.env :: X.outer) (hf : X.env.frame = some X.env.locals) (hN : X.N.Nodup) (hi : X.N[i]? = some n) (hln : X.env.kindOf n = some .local)
    (hg : Gl X c) (gC : X.mg c = some (.ref (He.ga X.K c))) (hm : PySem.W.exmOne X.K (.ref (He.ga X.K c)) (.ref (He.ga X.K c)) = some true) (tk : Takes X W)
    (hb : ∀ (W' : WX) (pn : List (Addr × Obj)) (xe : Value → Shared → Prop), Takes (X.tr pn xe) W' → PassesOwn (model X.prog X.w) X.A X.env xe → PSsd (X.tr pn xe) W' body db)
    (hh : ∀ (a : Addr) (oe : Obj) (pn : List (Addr × Obj)), PSsd (X.suite a ((a, oe) :: pn)) WN (b₀ :: suite) dh) (hdb : (c == ("__debug__" : Str)) = false := by decide) :
    PSd X W (.Try body [.ExceptHandler (some (.Name c np)) (some n) (b₀ :: suite) pos'] [] [] pos) (sTry c i db dh) := by
  refine (ps_try_as (tb := fun W' => tS X.K X.mg W' db) (ts := fun _ _ _ => tS X.K X.mg WN dh) hs hf hN hi hln ⟨hg, hdb, .inl gC⟩ tk hb (fun a oe _ _ pn _ _ => hh a oe pn)).le fun D σ H ⟨ρ, σd, G, ct, h⟩ => ⟨ρ, σd, G, ct, ?_⟩
  unfold sTry at h
  cases q : db σd G with
  | nx _ _ => rw [q] at h; exact h
  | ret _ _ => rw [q] at h; exact h
  | brk _ _ => rw [q] at h; exact h
  | cont _ _ => rw [q] at h; exact h
  | bad => rw [q] at h; exact h
  | exc c' fs σ1 G1 =>
    rw [q] at h
    intro ρ' H' σ' C dx e ct' hC rx
    simp only at h
    split at h
    · rename_i ec
      subst ec
      have eC : C = He.ga X.K c' := by rw [gC] at hC; cases hC; rfl
      subst eC
      refine ⟨true, hm, fun _ a ha => ⟨ρ', σ1.set i none, G1, ct'.hide i _, ?_⟩, fun z => by cases z⟩
      cases q2 : dh (σ1.set i none) G1 with
      | nx σ2 G2 => rw [q2] at h; exact fun ρ2 H2 σ3 e2 c2 => h ρ2 H2 _ (e.trans e2) (c2.hide i none)
      | ret d G2 => rw [q2] at h; exact fun ρ2 H2 v e2 s2 r2 => h ρ2 H2 v (e.trans e2) s2 r2
      | brk σ2 G2 => rw [q2] at h; exact fun ρ2 H2 σ3 e2 c2 => h ρ2 H2 _ (e.trans e2) (c2.hide i none)
      | cont σ2 G2 => rw [q2] at h; exact fun ρ2 H2 σ3 e2 c2 => h ρ2 H2 _ (e.trans e2) (c2.hide i none)
      | exc _ _ _ _ => rw [q2] at h; exact h.elim
      | bad => rw [q2] at h; exact h.elim
    · exact h.elim
end
end Dl
namespace Dl
open PySem L2 PySem.Spec PyProof.Rows
/-! ## raise C(), C an own exception without __init__ -/
def veB : List Value := [.type "ValueError", .type "Exception", .type "BaseException", .type "object"]
def oe0B (K : PySem.W.Frag) (c : Str) : Bool :=
  PySem.W.excIn K (He.ga K c) veB "ValueError.__new__" && (PySem.W.keepIn K (.ref (He.ga K c)) && (decide (PySem.W.subIn K (.ref (He.ga K c)) (.type "BaseException") = some true) && (decide (PySem.W.typeIn K (.ref (He.ga K c)) = some (.type "type")) &&
    decide (PySem.W.exmOne K (.ref (He.ga K c)) (.ref (He.ga K c)) = some true))))
structure EX0 (K : PySem.W.Frag) (c : Str) : Prop where
  exc : PySem.W.excIn K (He.ga K c) veB "ValueError.__new__" = true
  keep : PySem.W.keepIn K (.ref (He.ga K c)) = true
  sub : PySem.W.subIn K (.ref (He.ga K c)) (.type "BaseException") = some true
  ty : PySem.W.typeIn K (.ref (He.ga K c)) = some (.type "type")
  own : PySem.W.exmOne K (.ref (He.ga K c)) (.ref (He.ga K c)) = some true
theorem oe0B_ok {K : PySem.W.Frag} {c : Str} (h : oe0B K c = true) : EX0 K c := by
  unfold oe0B at h
  simp only [Bool.and_eq_true, decide_eq_true_eq] at h
  obtain ⟨h1, h2, h3, h4, h5⟩ := h
  exact ⟨h1, h2, h3, h4, h5⟩
section
variable {X : Cx} {W : WX}
theorem pmk_own0 {x : Str} {C : Addr} {bmB : List Value} {B newId initId : String} {p pos : Pos} (F : ExcBaseFacts B newId initId bmB) (q : PySem.W.excIn X.K C bmB newId = true) (gC : X.mg x = some (.ref C)) (kC : PySem.W.keepIn X.K (.ref C) = true) (r : Raises X (.ref C)) (hg : Gl X x)
    (hdb : (x == ("__debug__" : Str)) = false := by decide) : PMk X (.Call (.Name x p) [] [] pos) (fun _ H Q => Q (.ref C) none H) := by
  intro pins s σ H Q I h
  refine wpAny_Call_Name_kw (ld_glob I hg gC ?_ hdb)
  refine PySem.W.callWith_K0 I.kIn kC ?_
  show wpAny _ _ (call (.ref C) []) _ _ _
  obtain ⟨bm, N, nm, qn, bs, hdct, sn, sub, ab, col, dd, k0, k1, k2, k3, k5, mN, hC, hN, hni, T⟩ := exc_obj I.kIn q
  refine wpAny_call_exc_subT F T hC hN hni (fun h' e hm => ?_) (by show 0 ≤ sizeLine; exact Nat.zero_le _)
  exact mk_of I hm r h (I.hok.gone hm.new)
def sRaise0 (c : Str) : DS := fun σ G => .exc c [] σ G
theorem le_raise0 {c : Str} {p pos pos2 : Pos} (ex : EX0 X.K c) (gC : X.mg c = some (.ref (He.ga X.K c))) (hc : X.calm = true) (tk : Takes X W) (hg : Gl X c) (hdb : (c == ("__debug__" : Str)) = false := by decide) :
    PSd X W (.Raise (some (.Call (.Name c p) [] [] pos)) none pos2) (sRaise0 c) :=
  (ps_raise hc tk (pmk_own0 PySem.F.excBase_ValueError ex.exc gC ex.keep (raises_own ex.sub ex.ty) hg hdb)).le fun D σ H ⟨ρ, σd, G, ct, h⟩ => h ρ H σ (He.ga X.K c) none (.refl _ _) ct gC rfl
end
/-! what they do, for proofs -/
abbrev endP (i : Nat) (P : Po) : Po := ⟨fun σ G => P.nx (σ.set i none) G, P.rt, fun σ G => P.bk (σ.set i none) G, fun σ G => P.ct (σ.set i none) G, fun _ _ _ _ => False⟩
theorem wS_try {c : Str} {i : Nat} {b h : DS} {σ : PEnv} {G : GS} {P : Po} : wS (sTry c i b h σ G) P = wS (b σ G) ⟨P.nx, P.rt, P.bk, P.ct, fun c' _ σ1 G1 => c' = c ∧ wS (h (σ1.set i none) G1) (endP i P)⟩ := by
  unfold sTry
  cases q : b σ G with
  | exc c' fs σ1 G1 =>
    by_cases e : c' = c
    · simp only [e, if_true, wS, true_and, endTry]
      cases h (σ1.set i none) G1 <;> rfl
    · simp only [e, if_false, wS, false_and]
  | _ => rfl
theorem wS_raise0 {c : Str} {σ : PEnv} {G : GS} {P : Po} : wS (sRaise0 c σ G) P = P.ex c [] σ G := id rfl
end Dl
namespace Dl
open PySem L2
/-! ## *e among the items of a display -/
def aStar (e : DE) (r : DA) : DA := fun σ G => bindE (e σ G) fun x G1 => match seqOf G1 x with
  | some ds => bindE (r σ G1) fun xs G2 => .ok (ds ++ xs) G2
  | none => .bad
section
variable {X : Cx} {W : WX}
theorem le_astar {e : Expr} {es : List Expr} {d : DE} {r : DA} {p : Pos} (he : PEd X W e d) (hr : PAd X W es r) (hs : starEach (.Starred e p :: es) X.env = (true, eval e X.env) :: starEach es X.env := by rfl) : PAd X W (.Starred e p :: es) (aStar d r) := by
  refine (StX.pa_star he hr hs).le fun σ H Q ⟨ρ, σd, G, c, q⟩ => ?_
  refine ⟨ρ, σd, G, c, (EP'.bind q).mono fun ρ1 H1 G1 a v e1 s1 d1 _ ⟨ρ2, G2, a2, e2, s2, d2, _, h2⟩ => ?_⟩
  cases hq : seqOf G2 a2 with
  | none => rw [hq] at h2; exact h2.elim
  | some ds =>
    rw [hq] at h2
    obtain ⟨p, xs, rfl, sq, rv⟩ := seqOf_at s2 hq d2
    refine ⟨p, xs, rfl, sq.symm, ρ2, σd, G2, c.ext e2 s2, (EP'.bind h2).mono fun ρ3 H3 G3 a3 v3 _ _ _ _ ⟨ρ4, G4, a4, e4, s4, d4, _, h4⟩ => ?_⟩
    exact h4 ρ4 H3 _ (.refl _ _) s4 ((rv.ext e4).append d4)
end
def seqW (o : Option (List D)) (k : List D → Prop) (_u : Tie1 k := {}) : Prop := match o with | some ds => k ds | none => False
theorem seqW_some {ds : List D} {k : List D → Prop} : seqW (some ds) k = k ds := id rfl
theorem wE_aStar {σ : PEnv} {G : GS} {E : EK} {e : DE} {r : DA} {Q : List D → GS → Prop} : wE (aStar e r σ G) E Q = wE (e σ G) E fun x G1 => seqW (seqOf G1 x) fun ds => wE (r σ G1) E fun xs G2 => Q (ds ++ xs) G2 := by
  unfold aStar
  rw [wE_bind]
  refine wE_ext fun x G1 => ?_
  cases seqOf G1 x with
  | none => rfl
  | some ds => rw [wE_bind]; rfl
/-! ## sorted of a list of tuples of whole numbers -/
def lexLe : List Int → List Int → Bool
  | [], _ => true
  | _ :: _, [] => false
  | a :: r, b :: q => decide (a < b) || (decide (a = b) && lexLe r q)
theorem lexLe_trans : ∀ a b c : List Int, lexLe a b = true → lexLe b c = true → lexLe a c = true
  | [], _, _, _, _ => rfl
  | _ :: _, [], _, h, _ => by simp [lexLe] at h
  | _ :: _, _ :: _, [], _, h => by simp [lexLe] at h
  | a :: r, b :: q, c :: s, h1, h2 => by
    have ih := lexLe_trans r q s
    simp only [lexLe, Bool.or_eq_true, decide_eq_true_eq, Bool.and_eq_true] at *
    rcases h1 with h1 | ⟨rfl, h1⟩ <;> rcases h2 with h2 | ⟨rfl, h2⟩
    · left; omega
    · left; omega
    · left; omega
    · right; exact ⟨rfl, ih h1 h2⟩
theorem lexLe_total : ∀ a b : List Int, (lexLe a b || lexLe b a) = true
  | [], _ => rfl
  | _ :: _, [] => rfl
  | a :: r, b :: q => by
    have ih := lexLe_total r q
    simp only [lexLe, Bool.or_eq_true, decide_eq_true_eq, Bool.and_eq_true] at *
    by_cases h : a = b
    · subst h
      rcases ih with ih | ih
      · exact .inl (.inr ⟨rfl, ih⟩)
      · exact .inr (.inr ⟨rfl, ih⟩)
    · by_cases h2 : a < b
      · exact .inl (.inl h2)
      · exact .inr (.inl (by omega))
theorem lexLe_anti : ∀ a b : List Int, lexLe a b = true → lexLe b a = true → a = b
  | [], [], _, _ => rfl
  | [], _ :: _, _, h => by simp [lexLe] at h
  | _ :: _, [], h, _ => by simp [lexLe] at h
  | a :: r, b :: q, h1, h2 => by
    have ih := lexLe_anti r q
    simp only [lexLe, Bool.or_eq_true, decide_eq_true_eq, Bool.and_eq_true] at *
    rcases h1 with h1 | ⟨rfl, h1⟩
    · rcases h2 with h2 | ⟨e, h2⟩
      · omega
      · omega
    · rcases h2 with h2 | ⟨_, h2⟩
      · omega
      · rw [ih h1 h2]
theorem lex_code {B : Int} : ∀ a b : List Int, a.length = b.length → TS.Bd B a → TS.Bd B b → TS.code B a ≤ TS.code B b → lexLe a b = true
  | [], _, _, _, _, _ => rfl
  | _ :: _, [], h, _, _, _ => by simp at h
  | a :: r, b :: q, hl, h1, h2, hc => by
    simp only [List.length_cons, Nat.add_right_cancel_iff] at hl
    have ih := lex_code r q hl h1.tail h2.tail
    simp only [lexLe, Bool.or_eq_true, decide_eq_true_eq, Bool.and_eq_true]
    by_cases h : a < b
    · exact .inl h
    · by_cases e : a = b
      · subst e
        refine .inr ⟨rfl, ih ?_⟩
        have hs := TS.code_same (B := B) (d := a) (r := q) (q := r) hl.symm
        have : ¬ TS.code B q < TS.code B r := fun z => by have := hs.mpr z; omega
        omega
      · have := TS.code_lt (B := B) (d := b) (e := a) (r := q) (q := r) hl.symm h2.tail h1.tail (by omega)
        omega
def srtT (L : List (List Int)) : List (List Int) := L.mergeSort lexLe
theorem srtT_perm (L : List (List Int)) : (srtT L).Perm L := List.mergeSort_perm _ _
theorem srtT_up (L : List (List Int)) : (srtT L).Pairwise fun a b => lexLe a b = true := List.pairwise_mergeSort (le := lexLe) lexLe_trans lexLe_total L
theorem srtT_one {L M : List (List Int)} (h1 : M.Perm L) (h2 : M.Pairwise fun a b => lexLe a b = true) : M = srtT L :=
  List.Perm.eq_of_pairwise (le := fun a b => lexLe a b = true) (fun a b _ _ x y => lexLe_anti a b x y) h2 (srtT_up L) (h1.trans (srtT_perm L).symm)
def tupI (ns : List Int) : D := .tup (ns.map D.int)
def tupOf : D → Option (List Int)
  | .tup ds => intsD ds
  | _ => none
def tupsOf : List D → Option (List (List Int))
  | [] => some []
  | d :: r => (tupOf d).bind fun a => (tupsOf r).map (a :: ·)
theorem tupsOf_map (L : List (List Int)) : tupsOf (L.map tupI) = some L := by
  induction L with
  | nil => rfl
  | cons a L ih => simp only [List.map_cons, tupsOf, tupI, tupOf, intsD_ints, Option.bind_some]; rw [ih]; rfl
theorem intsD_inv : ∀ {ds : List D} {ns : List Int}, intsD ds = some ns → ds = ns.map D.int
  | [], ns, h => by simp only [intsD, Option.some.injEq] at h; subst h; rfl
  | .int i :: r, ns, h => by
    simp only [intsD, Option.map_eq_some_iff] at h
    obtain ⟨m, h, rfl⟩ := h
    rw [intsD_inv h]; rfl
  | .non :: _, _, h => by simp [intsD] at h
  | .bl _ :: _, _, h => by simp [intsD] at h
  | .str _ :: _, _, h => by simp [intsD] at h
  | .tup _ :: _, _, h => by simp [intsD] at h
  | .lst _ :: _, _, h => by simp [intsD] at h
  | .dic _ _ :: _, _, h => by simp [intsD] at h
  | .exn _ _ _ _ :: _, _, h => by simp [intsD] at h
  | .ref _ :: _, _, h => by simp [intsD] at h
  | .scr _ :: _, _, h => by simp [intsD] at h
  | .key _ :: _, _, h => by simp [intsD] at h
theorem tupsOf_inv : ∀ {ds : List D} {L : List (List Int)}, tupsOf ds = some L → ds = L.map tupI
  | [], L, h => by simp only [tupsOf, Option.some.injEq] at h; subst h; rfl
  | d :: r, L, h => by
    simp only [tupsOf, Option.bind_eq_some_iff, Option.map_eq_some_iff] at h
    obtain ⟨a, h1, M, h2, rfl⟩ := h
    rw [tupsOf_inv h2, List.map_cons]
    congr 1
    cases d with
    | tup ds => simp only [tupOf] at h1; rw [intsD_inv h1]; rfl
    | _ => simp [tupOf] at h1
theorem rds_perm {K : PySem.W.Frag} {ρ : List Addr} {H : Hp} {xs ys : List V} (p : xs.Perm ys) : ∀ {L : List (List Int)}, RDs K ρ H (L.map tupI) xs → ∃ M : List (List Int), M.Perm L ∧ RDs K ρ H (M.map tupI) ys := by
  induction p with
  | nil => exact fun {L} h => ⟨L, .refl _, h⟩
  | cons x p ih =>
    intro L h
    cases L with
    | nil => cases (show _ = _ from h)
    | cons a L =>
      obtain ⟨v, r, e, h1, h2⟩ := h
      cases e
      obtain ⟨M, hp, hm⟩ := ih h2
      exact ⟨a :: M, hp.cons a, RDs.cons h1 hm⟩
  | swap x y l =>
    intro L h
    cases L with
    | nil => cases (show _ = _ from h)
    | cons a L =>
      obtain ⟨v, r, e, h1, h2⟩ := h
      cases e
      cases L with
      | nil => cases (show _ = _ from h2)
      | cons b L =>
        obtain ⟨v, r, e, h3, h4⟩ := h2
        cases e
        exact ⟨b :: a :: L, .swap a b L, RDs.cons h3 (RDs.cons h1 h4)⟩
  | trans p q ih1 ih2 =>
    intro L h
    obtain ⟨M, hp, hm⟩ := ih1 h
    obtain ⟨N, hq, hn⟩ := ih2 hm
    exact ⟨N, hq.trans hp, hn⟩
theorem ints_of_rds {K : PySem.W.Frag} {ρ : List Addr} {H : Hp} : ∀ {ns : List Int} {vs : List V}, RDs K ρ H (ns.map D.int) vs → vs = ns.map V.int
  | [], _, h => by cases (show _ = _ from h); rfl
  | n :: ns, _, ⟨v, r, e, h1, h2⟩ => by
    cases (show _ = _ from h1)
    subst e
    rw [ints_of_rds h2]; rfl
theorem tupI_at {K : PySem.W.Frag} {ρ : List Addr} {H : Hp} {ns : List Int} {v : V} (h : RD K ρ H (tupI ns) v) : TupI K H v ns := by
  obtain ⟨a, vs, rfl, t, r⟩ := h
  rw [ints_of_rds r] at t
  exact ⟨a, rfl, t.sq⟩
/-! ### sorted of tuples of ints, however many -/
section
open PyProof.Rows
def noS : Nat → Bool := fun _ => false
theorem tupItems_ints : ∀ {vs : List Value} {ns : List Int}, IntsAre vs ns → ∀ i : Nat, tupItems noS i vs = some (ns.map Sum.inl)
  | _, _, .nil, i => by rw [tupItems]; rfl
  | _, _, .cons n t h, i => by
    rw [tupItems, if_neg (by exact Bool.false_ne_true), tupItems_ints h (i + 1)]
    rfl
theorem keyC_ints {h : Heap} {v : Value} {ns : List Int} (t : TS.TupInts h v ns) : G.tupKeyC h noS v = some (ns.map Sum.inl) := by
  obtain ⟨a, xs, rfl, ⟨o, ho, hc, n, hd⟩, i⟩ := t
  unfold G.tupKeyC
  have e1 : G.isTupObj h (.ref a) = true := by simp [G.isTupObj, ho, hc]
  rw [if_pos e1]
  simp only [tupKey, ho, hd]
  exact tupItems_ints i 0
theorem tupsOf_ints {h : Heap} : ∀ vs : List Value, (∀ v ∈ vs, ∃ ns, TS.TupInts h v ns ∧ 1 ≤ ns.length) → ∃ fs, TupsOf h noS vs fs
  | [], _ => ⟨[], .nil⟩
  | v :: vs, x => by
    obtain ⟨fs, k⟩ := tupsOf_ints vs fun u hu => x u (List.mem_cons_of_mem _ hu)
    obtain ⟨ns, ⟨a, xs, rfl, ⟨o, ho, hc, n, hdt⟩, i⟩, hn⟩ := x v List.mem_cons_self
    obtain ⟨y, ys, e⟩ : ∃ y ys, xs.toList = y :: ys := by
      cases q : xs.toList with
      | nil =>
        rw [q] at i
        have l := i.length
        rw [List.length_nil] at l
        omega
      | cons y ys => exact ⟨y, ys, rfl⟩
    obtain ⟨m, t, hy⟩ := i.all y (by rw [e]; exact List.mem_cons_self)
    refine ⟨y :: fs, .cons ⟨a, o, xs, n, rfl, ho, hc, hdt, ?_, fun _ => ⟨m, t, hy⟩, fun z => absurd z (by decide)⟩ k⟩
    have z := congrArg (fun l : List Value => l[0]?) e
    simpa using z
theorem lexLt_le : ∀ a b : List Int, lexLt itemOrd (b.map Sum.inl) (a.map Sum.inl) = false → lexLe a b = true
  | [], _, _ => rfl
  | a :: r, [], h => absurd (show true = false from h) (by decide)
  | a :: r, b :: q, h => by
    rw [List.map_cons, List.map_cons, lex_false] at h
    obtain ⟨h1, h2⟩ := h
    have h1 : ¬ b < a := of_decide_eq_false h1
    simp only [lexLe, Bool.or_eq_true, decide_eq_true_eq, Bool.and_eq_true]
    by_cases e : a < b
    · exact .inl e
    · refine .inr ⟨by omega, lexLt_le r q ?_⟩
      rcases h2 with h2 | h2
      · exact absurd (of_decide_eq_true h2) e
      · exact h2
theorem out_lex {h : Heap} {vs : List Value} {arr : Array Keyed} (hk : ∀ v ∈ vs, ∃ ns, TS.TupInts h v ns) (hp : arr.Perm (pairsOf vs)) (hs : SortedToK (G.tupKindC h noS) arr (pairsOf vs).size) :
    (arr.map (·.2)).toList.Perm vs ∧ (arr.map (·.2)).toList.Pairwise fun u v => lexLe (TS.intsOf h u) (TS.intsOf h v) = true := by
  have e := Array.perm_iff_toList_perm.mp hp
  rw [pairsOf_toList] at e
  have m : ∀ p ∈ arr.toList, p.1 = p.2 ∧ p.1 ∈ vs := fun p hp => mem_zip_self (e.mem_iff.mp hp)
  rw [Array.toList_map]
  refine ⟨?_, ?_⟩
  · have z := e.map Prod.snd
    rw [List.map_snd_zip (Nat.le_refl _)] at z
    exact z
  · rw [List.pairwise_map, List.pairwise_iff_getElem]
    intro i j hi hj hij
    have hsz : (pairsOf vs).size = arr.size := hp.size_eq.symm
    have h1 := hs i j (by omega) (by rw [hsz]; simpa using hj)
    have kk : ∀ (i : Nat) (hi : i < arr.toList.length), KK (G.tupKindC h noS) arr i = (TS.intsOf h arr.toList[i].2).map Sum.inl := fun i hi => by
      have hm := m arr.toList[i] (List.getElem_mem hi)
      obtain ⟨ns, t⟩ := hk _ hm.2
      have e0 : arr[i]? = some arr.toList[i] := by rw [← Array.getElem?_toList, List.getElem?_eq_getElem hi]
      unfold KK
      rw [e0]
      show ((G.tupKeyC h noS arr.toList[i].1).getD []) = _
      rw [keyC_ints t, ← hm.1, t.ints]
      rfl
    rw [kk i hi, kk j hj] at h1
    exact lexLt_le _ _ h1
section
variable {prog : Program} {w : World} {A : Around} {E : Value → Shared → Prop} {s : Shared}
theorem sort_tupsL {a : Addr} {vs : List Value} {n : Nat} {P : PySem.Fin → Shared → Prop} (ho : s.heap.get? a = some (seqObj "list" vs.toArray n)) (hL : vs.length ≤ sizeLine) (x : ∀ v ∈ vs, ∃ ns, TS.TupInts s.heap v ns ∧ 1 ≤ ns.length)
    (h : ∀ out : Array Value, out.toList.Perm vs → out.toList.Pairwise (fun u v => lexLe (TS.intsOf s.heap u) (TS.intsOf s.heap v) = true) → P (.done (.ret .none)) { s with heap := sortedHeap s.heap a vs out }) :
    wpAny (model prog w) A (Builtin.«list.sort» ⟨[.ref a], []⟩) P E s := by
  obtain ⟨fs, ht⟩ := tupsOf_ints vs x
  refine G.list_sort_tups ho ht (fun v hv => ?_) hL fun st' h1 h2 _ => ?_
  · obtain ⟨ns, t, _⟩ := x v hv
    exact ⟨_, keyC_ints t⟩
  · obtain ⟨p, q⟩ := out_lex (fun v hv => let ⟨ns, t, _⟩ := x v hv; ⟨ns, t⟩) h1 h2
    exact h _ p q
theorem sorted_tupsL {l : Addr} {vs : List Value} {Q : Value → Shared → Prop} (hl : s.heap.IsList l vs.toArray) (hL : vs.length ≤ sizeLine) (x : ∀ v ∈ vs, ∃ ns, TS.TupInts s.heap v ns ∧ 1 ≤ ns.length)
    (h : ∀ out : Array Value, out.toList.Perm vs → out.toList.Pairwise (fun u v => lexLe (TS.intsOf s.heap u) (TS.intsOf s.heap v) = true) → Q (.ref (s.heap.objs.size + 1)) { s with heap := sortedAll s.heap vs out }) :
    wpAny (model prog w) A (call (.builtin "sorted") [.ref l]) Q E s := by
  obtain ⟨fs, ht⟩ := tupsOf_ints vs x
  refine G.sorted_tups hl ht (fun v hv => ?_) hL fun st' h1 h2 _ => ?_
  · obtain ⟨ns, t, _⟩ := x v hv
    exact ⟨_, keyC_ints t⟩
  · obtain ⟨p, q⟩ := out_lex (fun v hv => let ⟨ns, t, _⟩ := x v hv; ⟨ns, t⟩) h1 h2
    exact h _ p q
end
end
def rSortL (K : PySem.W.Frag) : List V → Hp → VK → Prop := fun vs H Q => ∃ (a : Addr) (xs : List V), vs = [V.ref a] ∧ SqL K H a xs ∧ (∀ x ∈ xs, ∃ ns, TupI K H x ns ∧ 1 ≤ ns.length) ∧
  ∀ (ys : List V) (p : Addr), ys.Perm xs → ys.Pairwise (fun x y => ∀ n m, TupI K H x n → TupI K H y m → lexLe n m = true) → H p = none → Q (.ref p) (upd H p (.lst ys))
theorem cr_sortL {X : Cx} : CallR X (.builtin "sorted") (rSortL X.K) := by
  intro pins s σ H vs us Q I r h
  obtain ⟨a, xs, rfl, hs, hx, q⟩ := h
  obtain ⟨its, rv, hl, hz⟩ := I.list hs
  rw [Vals.ref1 r]
  obtain ⟨e1, e2⟩ := bkV_refs rv fun x m => by
    obtain ⟨ns, ⟨t, e, _⟩, _⟩ := hx x m
    exact ⟨t, e⟩
  refine sorted_tupsL hl.isList (by rw [← rv.length]; exact hz) (fun v hv => ?_) fun out h1 h2 => ?_
  · obtain ⟨t, rfl⟩ := e2 v hv
    have hm : V.ref t ∈ xs := by
      rw [e1]
      exact List.mem_map.mpr ⟨_, hv, rfl⟩
    obtain ⟨ns, ⟨t', e, ht⟩, hn⟩ := hx _ hm
    cases e
    exact ⟨ns, tupI_raw I ht, hn⟩
  · obtain ⟨ep, he'⟩ := PyProof.Rows.sortedAll_at s.heap its out
    have h3 : ∀ u ∈ out.toList, ∃ a, u = Value.ref a := fun u hu => e2 u (h1.mem_iff.mp hu)
    have hp : (out.toList.map bkV).Perm xs := by
      rw [e1]
      exact h1.map bkV
    have hlen : (out.toList.map bkV).length ≤ sizeLine := by
      rw [hp.length_eq]
      exact hz
    refine ⟨.ref _, upd H (s.heap.objs.size + 1) (.lst (out.toList.map bkV)), I.laid (t' := s.toks) (fun _ _ => PyProof.Rows.sortedAll_old) (Nat.le_succ _) ⟨hlen, out.toList, ep, bkV_vals h3, he'⟩, rfl, q _ _ hp ?_ (I.hok.fresh (Nat.le_succ _))⟩
    rw [List.pairwise_map]
    refine List.Pairwise.imp (fun {u v} huv n m hn hm => ?_) h2
    obtain ⟨t, et, ht⟩ := hn
    obtain ⟨t', et', ht'⟩ := hm
    have eu := bkV_ref et
    have ev := bkV_ref et'
    have i1 : TS.intsOf s.heap u = n := by
      rw [eu]
      exact (tupI_raw I ht).ints
    have i2 : TS.intsOf s.heap v = m := by
      rw [ev]
      exact (tupI_raw I ht').ints
    rw [← i1, ← i2]
    exact huv
def okT (d : Nat) (B : Int) (L : List (List Int)) : Bool := decide (L.length < 1000000) && L.all fun ns => decide (ns.length = d)
def fSrtT (d : Nat) (B : Int) : List D → GS → RE D := fun xs G => match xs with
  | [x] => match (lstOf G x).bind tupsOf with
    | some L => if okT d B L = true then .ok (.lst ((srtT L).map tupI)) G else .bad
    | none => .bad
  | _ => .bad
section
variable {X : Cx} {W : WX}
theorem rds_all {K : PySem.W.Frag} {ρ : List Addr} {H : Hp} {L : List (List Int)} {xs : List V} (h : RDs K ρ H (L.map tupI) xs) : ∀ x ∈ xs, ∃ ns ∈ L, RD K ρ H (tupI ns) x := by
  intro x hx
  obtain ⟨i, hi, e⟩ := List.mem_iff_getElem.mp hx
  have hl := h.length
  have hi2 : i < L.length := by rw [List.length_map] at hl; omega
  obtain ⟨v, h1, h2⟩ := h.get (i := i) (d := tupI L[i]) (by rw [List.getElem?_map, List.getElem?_eq_getElem hi2]; rfl)
  rw [List.getElem?_eq_getElem hi, e] at h1
  cases h1
  exact ⟨_, List.getElem_mem hi2, h2⟩
theorem pair_of {K : PySem.W.Frag} {ρ : List Addr} {H : Hp} : ∀ {M : List (List Int)} {ys : List V}, RDs K ρ H (M.map tupI) ys → ys.Pairwise (fun x y => ∀ n m, TupI K H x n → TupI K H y m → lexLe n m = true) → M.Pairwise fun a b => lexLe a b = true
  | [], _, _, _ => List.Pairwise.nil
  | a :: M, _, ⟨v, r, e, h1, h2⟩, h => by
    subst e
    rw [List.pairwise_cons] at h
    refine List.pairwise_cons.mpr ⟨fun b hb => ?_, pair_of h2 h.2⟩
    obtain ⟨i, hi, e⟩ := List.mem_iff_getElem.mp hb
    obtain ⟨w, g1, g2⟩ := h2.get (i := i) (d := tupI b) (by rw [List.getElem?_map, List.getElem?_eq_getElem hi, e]; rfl)
    exact h.1 w (List.mem_of_getElem? g1) a b (tupI_at h1) (tupI_at g2)
theorem sv_srtT {d : Nat} {B : Int} (hd : 1 ≤ d) : SrvC X (rSortL X.K) (fSrtT d B) := by
  intro W ρ G H xs dxs Q s r q
  unfold fSrtT at q
  split at q
  · rename_i x
    obtain ⟨v, rfl, rv⟩ := rds1 r
    cases hq : (lstOf G x).bind tupsOf with
    | none => rw [hq] at q; exact q.elim
    | some L =>
      rw [hq] at q
      simp only at q
      split at q
      · rename_i ho
        rw [Option.bind_eq_some_iff] at hq
        obtain ⟨ds, h1, h2⟩ := hq
        obtain ⟨a, vs, rfl, sq, rd⟩ := lstOf_at s h1 rv
        rw [tupsOf_inv h2] at rd
        unfold okT at ho
        simp only [Bool.and_eq_true, decide_eq_true_eq, List.all_eq_true] at ho
        have hl := rd.length
        rw [List.length_map] at hl
        have hBd : ∀ ns ∈ L, ns.length = d := fun ns hn => ho.2 ns hn
        refine ⟨a, vs, rfl, .inl (.inl sq), fun x hx => ?_, fun ys p hp hw hn => ?_⟩
        · obtain ⟨ns, h3, h4⟩ := rds_all rd x hx
          exact ⟨ns, tupI_at h4, by rw [hBd ns h3]; exact hd⟩
        · obtain ⟨M, hM, hr⟩ := rds_perm hp.symm rd
          have hpw := pair_of hr hw
          have : M = srtT L := srtT_one hM hpw
          subst this
          exact lay_lst q s hr hn
      · exact q.elim
  · exact q.elim
theorem cr_srtT {d : Nat} {B : Int} (hd : 1 ≤ d) : CallR X (.builtin "sorted") (rSortL X.K) := cr_sortL
end
theorem fSrtT_lst {d : Nat} {B : Int} {L : List (List Int)} {G : GS} (h : okT d B L = true) : fSrtT d B [.lst (L.map tupI)] G = .ok (.lst ((srtT L).map tupI)) G := by
  simp only [fSrtT, lstOf, Option.bind_some, tupsOf_map, h, if_true]
theorem fSrtT_ref {d : Nat} {B : Int} {L : List (List Int)} {G : GS} {n : Nat} (hn : G[n]? = some (.lst (L.map tupI))) (h : okT d B L = true) : fSrtT d B [.ref n] G = .ok (.lst ((srtT L).map tupI)) G := by
  simp only [fSrtT, lstOf, hn, Option.bind_some, tupsOf_map, h, if_true]
/-! ## zip of two tuples -/
def zipD : List D → List D → List D
  | a :: r, b :: q => .tup [a, b] :: zipD r q
  | _, _ => []
theorem zipD_len : ∀ a b : List D, (zipD a b).length = min a.length b.length
  | [], _ => by simp [zipD]
  | _ :: _, [] => by simp [zipD]
  | _ :: r, _ :: q => by simp only [zipD, List.length_cons, zipD_len r q]; omega
theorem zipD_get : ∀ {a b : List D} {i : Nat} {d : D}, (zipD a b)[i]? = some d → ∃ x y, a[i]? = some x ∧ b[i]? = some y ∧ d = .tup [x, y]
  | [], _, i, d, h => by simp [zipD] at h
  | _ :: _, [], i, d, h => by simp [zipD] at h
  | x :: r, y :: q, 0, d, h => by simp [zipD] at h; exact ⟨x, y, rfl, rfl, h.symm⟩
  | x :: r, y :: q, i + 1, d, h => by
    obtain ⟨u, v, h1, h2, h3⟩ := zipD_get (a := r) (b := q) (i := i) (d := d) (by simpa [zipD] using h)
    exact ⟨u, v, by simpa using h1, by simpa using h2, h3⟩
def zipR (ds : List D) (G : GS) : RE (List D) := match ds with
  | [.tup a, .tup b] => .ok (zipD a b) G
  | _ => .bad
def iZp (a : DA) : DI := fun σ G => bindE (a σ G) fun xs G1 => zipR xs G1
section
variable {X : Cx} {W : WX}
theorem le_zp {a b : Expr} {da : DA} {p pos tpos : Pos} {elts : List Expr} {kk : Nat} (hg : Gl X "zip") (hm : X.mg "zip" = none) (ha : PAd X W [a, b] da)
    (hs : starEach [a, b] X.env = (false, eval a X.env) :: starEach [b] X.env := by rfl) (hpl : (backTo pos (starEach [b] X.env)).any (·.1) = false := by rfl) : PId X W (.Tuple elts kk tpos) (.Call (.Name "zip" p) [a, b] [] pos) (iZp da) := by
  refine ⟨fun pins s σ H R I h => ?_⟩
  obtain ⟨ρ, σd, G, c, h⟩ := h
  unfold iZp at h
  refine (RZ.pi_zipA hg hm ha hs hpl).run pins s σ H R I ⟨ρ, σd, G, c, (EP'.bind h).mono fun _ H1 _ _ vs _ _ _ _ ⟨ρ1, G1, ds, e1, s1, d1, eq, h1⟩ => ?_⟩
  unfold zipR at h1
  split at h1
  · rename_i xs ys
    obtain ⟨v, u, ev, dv, du⟩ := rds2 d1
    subst ev
    obtain ⟨a, vs, ev, la, rv⟩ := dv
    subst ev
    obtain ⟨b, us, ev, lb, ru⟩ := du
    subst ev
    refine ⟨a, b, vs, us, rfl, .inr ⟨la.sq, lb.sq, h1 ρ1 H1 _ (.refl _ _) s1 fun i ρ' G' H' e s => ⟨fun hl => ⟨vs, us, (la.ext e).sq, (lb.ext e).sq, ?_⟩, fun d hd => ?_⟩⟩⟩
    · rw [zipD_len, rv.length, ru.length] at hl
      omega
    · obtain ⟨x, y, hx, hy, ed⟩ := zipD_get hd
      subst ed
      obtain ⟨vx, hvx, rx⟩ := rv.get hx
      obtain ⟨vy, hvy, ry⟩ := ru.get hy
      refine ⟨⟨vs, us, vx, vy, (la.ext e).sq, (lb.ext e).sq, hvx, hvy⟩, fun z H'' ⟨T, x0, y0, ez, hT, eh, q1, q2⟩ => ?_⟩
      have z1 := q1 vs (la.ext e).sq
      have z2 := q2 us (lb.ext e).sq
      rw [hvx] at z1
      rw [hvy] at z2
      cases z1; cases z2
      obtain ⟨ee, ss⟩ := s.lay (.tup [vx, vy]) hT
      subst eh
      subst ez
      refine ⟨ee, ss, T, _, rfl, .inl ⟨.inl upd_same, s.fresh hT⟩, RDs.cons ((rx.ext e).ext ee) (RDs.cons ((ry.ext e).ext ee) RDs.nil)⟩
  · exact h1.elim
end
theorem wE_zp {σ : PEnv} {G : GS} {E : EK} {a : DA} {Q : List D → GS → Prop} : wE (iZp a σ G) E Q = wE (a σ G) E fun xs G1 => wE (zipR xs G1) E Q := by unfold iZp; simp only [wE_bind]
theorem zipR_tup {a b : List D} {G : GS} : zipR [.tup a, .tup b] G = .ok (zipD a b) G := id rfl
/-! ## defs that hand back what may be changed -/
def runO (N : Nat) (b : DS) : DF := fun ds G => match b (ds.map some ++ List.replicate (N - ds.length) none) G with
  | .nx _ G' => .ok .non G'
  | .ret d G' => .ok d G'
  | .exc c fs _ G' => .exc c fs G'
  | _ => .bad
theorem fn_okO {P : Program} {w : World} {K : PySem.W.Frag} {mg : MG} {base : Heap} {x qual : Str} {params : Arguments} {body : List Stmt} {scope : Scope} {dvs : List V} {kws : List (Str × V)} {f : Addr} {fd : FuncData} {N ps : List Str} {k n : Nat} {b : DS} (F : FunD K x qual params body scope dvs kws f fd) (S : FnScope N ps scope) (hn : N.length = n)
    (hbody : ∀ (cdv : Value) (A : Around) (outer : List Env) (s : Shared) (H : Hp) (E : XK), Room k (A.deeper (PyProof.Rows.envOfC qual scope s.heap.objs.size f cdv)) →
      PSsd (cxOf (L2.CX P w) P w K mg base N qual scope f cdv A outer s H E) (WF E) body b) : FnOk P w K mg base (L2.CX P w) (k + 1) f fd ps (spF K mg ps.length (runO n b)) := by
  subst hn
  refine F.ok S (fun vs H Q E ⟨ρ, ds, G, s, r, e, _⟩ => by rw [← e, r.length]) fun cdv A outer s H vs Q E hr ⟨ρ, ds, G, rs, r, _, h⟩ => ?_
  refine ⟨_, hbody cdv A outer s H E hr, ρ, _, G, start_ct rs r, ?_⟩
  show SPst K mg (WF E) ρ H (b (ds.map some ++ List.replicate (N.length - ds.length) none) G) _
  unfold runO at h
  cases q : b (ds.map some ++ List.replicate (N.length - ds.length) none) G with
  | nx σ G' => rw [q] at h; exact fun ρ' H' σ' e c => h ρ' H' _ e c.rs rfl
  | ret d G' => rw [q] at h; exact fun ρ' H' v e s' rv => h ρ' H' v e s' rv
  | brk σ G' => rw [q] at h; exact h.elim
  | cont σ G' => rw [q] at h; exact h.elim
  | bad => rw [q] at h; exact h.elim
  | exc c fs σ G' => rw [q] at h; exact fun ρ' H' σ' C dx e ct g x => h ρ' H' C dx e ct.rs g x
theorem fnXO {P : Program} {w : World} {K : PySem.W.Frag} {mg : MG} {base : Heap} {x qual : Str} {params : Arguments} {body : List Stmt} {scope : Scope} {N ps : List Str} {k n : Nat} {b : DS}
    (F : ∃ fd, FunD K x qual params body scope [] [] (He.ga K x) fd) (g : mg x = some (.ref (He.ga K x))) (S : FnScope N ps scope) (hn : N.length = n)
    (hb : ∀ (kV doc pm : Value) (an : Option Addr) (cdv ct : Value) (us : List Value), us.length = ps.length → bindArgs (PySem.W.fnOf x qual params body scope .none kV doc pm an cdv ct) ⟨us, []⟩ = pure (ps.zip us))
    (hbody : ∀ (f : Addr) (cdv : Value) (A : Around) (outer : List Env) (s : Shared) (H : Hp) (E : XK), Room k (A.deeper (PyProof.Rows.envOfC qual scope s.heap.objs.size f cdv)) →
      PSsd (cxOf (L2.CX P w) P w K mg base N qual scope f cdv A outer s H E) (WF E) body b) : FnX P w K mg base x (k + 1) ps (runO n b) := by
  obtain ⟨fd, F⟩ := F
  exact ⟨fd, fn_okO F S hn fun cdv A outer s H E hr => hbody _ cdv A outer s H E hr, F.bindsN hb, g, F.kp, F.bindsA hb, FunD_lk F⟩
theorem wE_funO {N : Nat} {b : DS} {ds : List D} {G : GS} {E : EK} {Q : D → GS → Prop} : wE (runO N b ds G) E Q = wS (b (ds.map some ++ List.replicate (N - ds.length) none) G)
    ⟨fun _ G' => Q .non G', fun d G' => Q d G', fun _ _ => False, fun _ _ => False, fun c fs _ G' => E c fs G'⟩ := by
  unfold runO
  cases b (ds.map some ++ List.replicate (N - ds.length) none) G <;> rfl
/-! ## list(range(a, b)) -/
def intW2 (d e : D) (k : Int → Int → Prop) : Prop := match d, e with | .int i, .int j => k i j | _, _ => False
theorem wE_lr2 {σ : PEnv} {G : GS} {E : EK} {Q : D → GS → Prop} {new : Bool} {e f : DE} : wE (eLR2 new e f σ G) E Q = wE (e σ G) E fun d G1 => wE (f σ G1) E fun d2 G2 => intW d fun a => intW d2 fun b => wE (lstRg new a b G2) E Q := by
  unfold eLR2; rw [wE_bind]
  refine wE_ext fun d G1 => ?_
  rw [wE_bind]
  refine wE_ext fun d2 G2 => ?_
  cases d <;> cases d2 <;> rfl
end Dl
namespace Dl
open PySem L2
/-! ## == of plain data: whole numbers, None, texts, tuples, lists -/
mutual
def plD : Nat → D → Bool
  | _, .non => true
  | _, .int _ => true
  | _, .str s => PyData.strOk (S s)
  | k + 1, .tup ds => plDs k ds
  | k + 1, .lst ds => plDs k ds
  | _, _ => false
def plDs : Nat → List D → Bool
  | _, [] => true
  | k, d :: ds => plD k d && plDs k ds
end
mutual
def toP : D → PyData
  | .int i => .int i
  | .str s => .str (S s)
  | .tup ds => .tuple (toPs ds)
  | .lst ds => .list (toPs ds)
  | _ => .none
def toPs : List D → List PyData
  | [] => []
  | d :: ds => toP d :: toPs ds
end
theorem plDs_all {k : Nat} : ∀ {ds : List D}, plDs k ds = true ↔ ∀ d ∈ ds, plD k d = true
  | [] => by simp [plDs]
  | d :: ds => by simp [plDs, plDs_all (ds := ds)]
mutual
theorem pyD_pl {G : GS} : ∀ (k : Nat) (d : D) (m : Nat), k < m → plD k d = true → pyD m G d = some (toP d)
  | _, d, 0, hm, _ => absurd hm (Nat.not_lt_zero _)
  | _, .non, m + 1, _, _ => rfl
  | _, .int _, m + 1, _, _ => rfl
  | _, .str _, m + 1, _, _ => rfl
  | k + 1, .tup ds, m + 1, hm, h => by simp only [pyD, toP, pyDs_pl k ds m (by omega) (by simpa only [plD] using h), Option.map_some]
  | k + 1, .lst ds, m + 1, hm, h => by simp only [pyD, toP, pyDs_pl k ds m (by omega) (by simpa only [plD] using h), Option.map_some]
  | 0, .tup _, _ + 1, _, h => by simp [plD] at h
  | 0, .lst _, _ + 1, _, h => by simp [plD] at h
  | _, .bl _, _ + 1, _, h => by simp [plD] at h
  | _, .dic _ _, _ + 1, _, h => by simp [plD] at h
  | _, .exn _ _ _ _, _ + 1, _, h => by simp [plD] at h
  | _, .ref _, _ + 1, _, h => by simp [plD] at h
  | _, .scr _, _ + 1, _, h => by simp [plD] at h
theorem pyDs_pl {G : GS} : ∀ (k : Nat) (ds : List D) (m : Nat), k < m → plDs k ds = true → ds.mapM (pyD m G) = some (toPs ds)
  | _, [], _, _, _ => by simp [toPs]
  | k, d :: ds, m, hm, h => by
    simp only [plDs, Bool.and_eq_true] at h
    rw [List.mapM_cons, pyD_pl k d m hm h.1, pyDs_pl k ds m hm h.2]
    rfl
end
mutual
theorem lay_pl : ∀ (k : Nat) (d : D), plD k d = true → (toP d).canLay0 = true ∧ (toP d).depth ≤ k
  | _, .non, _ => by simp [toP, PyData.canLay0, PyData.depth]
  | _, .int _, _ => by simp [toP, PyData.canLay0, PyData.depth]
  | _, .str _, h => by simp only [plD] at h; simp [toP, PyData.canLay0, PyData.depth, h]
  | k + 1, .tup ds, h => by
    have := lays_pl k ds (by simpa only [plD] using h)
    simp only [toP, PyData.canLay0, PyData.depth, this.1, true_and]
    omega
  | k + 1, .lst ds, h => by
    have := lays_pl k ds (by simpa only [plD] using h)
    simp only [toP, PyData.canLay0, PyData.depth, this.1, true_and]
    omega
  | 0, .tup _, h => by simp [plD] at h
  | 0, .lst _, h => by simp [plD] at h
  | _, .bl _, h => by simp [plD] at h
  | _, .dic _ _, h => by simp [plD] at h
  | _, .exn _ _ _ _, h => by simp [plD] at h
  | _, .ref _, h => by simp [plD] at h
  | _, .scr _, h => by simp [plD] at h
theorem lays_pl : ∀ (k : Nat) (ds : List D), plDs k ds = true → PyData.canLayAll0 (toPs ds) = true ∧ PyData.depthAll (toPs ds) ≤ k
  | _, [], _ => by simp [toPs, PyData.canLayAll0, PyData.depthAll]
  | k, d :: ds, h => by
    simp only [plDs, Bool.and_eq_true] at h
    have h1 := lay_pl k d h.1
    have h2 := lays_pl k ds h.2
    simp only [toPs, PyData.canLayAll0, PyData.depthAll, h1.1, h2.1, Bool.and_self, true_and]
    omega
end
mutual
theorem eqv_pl : ∀ (k m : Nat) (a b : D), plD k a = true → plD m b = true → PyData.eqv (toP a) (toP b) = beqD a b
  | _, _, .non, .non, _, _ => by simp [toP, PyData.eqv, beqD]
  | _, _, .non, .int _, _, _ => by simp [toP, PyData.eqv, beqD]
  | _, _, .non, .str _, _, _ => by simp [toP, PyData.eqv, beqD]
  | _, _, .non, .tup _, _, _ => by simp [toP, PyData.eqv, beqD]
  | _, _, .non, .lst _, _, _ => by simp [toP, PyData.eqv, beqD]
  | _, _, .int _, .non, _, _ => by simp [toP, PyData.eqv, beqD]
  | _, _, .int a, .int b, _, _ => by simp only [toP, PyData.eqv, beqD]; rfl
  | _, _, .int _, .str _, _, _ => by simp [toP, PyData.eqv, beqD]
  | _, _, .int _, .tup _, _, _ => by simp [toP, PyData.eqv, beqD]
  | _, _, .int _, .lst _, _, _ => by simp [toP, PyData.eqv, beqD]
  | _, _, .str _, .non, _, _ => by simp [toP, PyData.eqv, beqD]
  | _, _, .str _, .int _, _, _ => by simp [toP, PyData.eqv, beqD]
  | _, _, .str a, .str b, _, _ => by
    simp only [toP, PyData.eqv, beqD]
    by_cases h : a = b
    · subst h; simp
    · have : S a ≠ S b := fun z => h (S_inj z)
      simp [h, this]
  | _, _, .str _, .tup _, _, _ => by simp [toP, PyData.eqv, beqD]
  | _, _, .str _, .lst _, _, _ => by simp [toP, PyData.eqv, beqD]
  | _, _, .tup _, .non, _, _ => by simp [toP, PyData.eqv, beqD]
  | _, _, .tup _, .int _, _, _ => by simp [toP, PyData.eqv, beqD]
  | _, _, .tup _, .str _, _, _ => by simp [toP, PyData.eqv, beqD]
  | k + 1, m + 1, .tup a, .tup b, h1, h2 => by simp only [toP, PyData.eqv, beqD]; exact eqvs_pl k m a b (by simpa only [plD] using h1) (by simpa only [plD] using h2)
  | _, _, .tup _, .lst _, _, _ => by simp [toP, PyData.eqv, beqD]
  | _, _, .lst _, .non, _, _ => by simp [toP, PyData.eqv, beqD]
  | _, _, .lst _, .int _, _, _ => by simp [toP, PyData.eqv, beqD]
  | _, _, .lst _, .str _, _, _ => by simp [toP, PyData.eqv, beqD]
  | _, _, .lst _, .tup _, _, _ => by simp [toP, PyData.eqv, beqD]
  | k + 1, m + 1, .lst a, .lst b, h1, h2 => by simp only [toP, PyData.eqv, beqD]; exact eqvs_pl k m a b (by simpa only [plD] using h1) (by simpa only [plD] using h2)
  | 0, _, .tup _, _, h, _ => by simp [plD] at h
  | 0, _, .lst _, _, h, _ => by simp [plD] at h
  | _, 0, _, .tup _, _, h => by simp [plD] at h
  | _, 0, _, .lst _, _, h => by simp [plD] at h
  | _, _, .bl _, _, h, _ => by simp [plD] at h
  | _, _, .dic _ _, _, h, _ => by simp [plD] at h
  | _, _, .exn _ _ _ _, _, h, _ => by simp [plD] at h
  | _, _, .ref _, _, h, _ => by simp [plD] at h
  | _, _, .scr _, _, h, _ => by simp [plD] at h
  | _, _, _, .bl _, _, h => by simp [plD] at h
  | _, _, _, .dic _ _, _, h => by simp [plD] at h
  | _, _, _, .exn _ _ _ _, _, h => by simp [plD] at h
  | _, _, _, .ref _, _, h => by simp [plD] at h
  | _, _, _, .scr _, _, h => by simp [plD] at h
theorem eqvs_pl : ∀ (k m : Nat) (a b : List D), plDs k a = true → plDs m b = true → PyData.eqvAll (toPs a) (toPs b) = beqDs a b
  | _, _, [], [], _, _ => by simp [toPs, PyData.eqvAll, beqDs]
  | _, _, [], _ :: _, _, _ => by simp [toPs, PyData.eqvAll, beqDs]
  | _, _, _ :: _, [], _, _ => by simp [toPs, PyData.eqvAll, beqDs]
  | k, m, x :: a, y :: b, h1, h2 => by
    simp only [plDs, Bool.and_eq_true] at h1 h2
    simp only [toPs, PyData.eqvAll, beqDs, eqv_pl k m x y h1.1 h2.1, eqvs_pl k m a b h1.2 h2.2]
end
theorem shaped_pl {k : Nat} {d : D} (hk : k ≤ 11) (h : plD k d = true) : PySem.SeqAt.shaped (toP d) = true := by
  have := lay_pl k d h
  unfold PySem.SeqAt.shaped
  rw [this.1, Bool.true_and, decide_eq_true_eq]
  omega
/-- x stands for the plain data a -/
def isD (G : GS) (x a : D) : Prop := x = a ∨ ∃ n ds, x = .ref n ∧ a = .lst ds ∧ G[n]? = some (.lst ds)
theorem pyD_is {G : GS} {x a : D} (h : isD G x a) (m : Nat) : pyD (m + 1) G x = pyD (m + 1) G a := by
  rcases h with rfl | ⟨n, ds, rfl, rfl, hn⟩
  · rfl
  · simp only [pyD, hn]
theorem cEq_pl {neg : Bool} {x y a b : D} {G : GS} (hx : isD G x a) (hy : isD G y b) (h1 : plD 11 a = true) (h2 : plD 11 b = true) : cEqB neg x y G = .ok (.bl (xor neg (beqD a b))) G := by
  have p1 : pyD 12 G x = some (toP a) := by rw [pyD_is hx, pyD_pl 11 a 12 (by decide) h1]
  have p2 : pyD 12 G y = some (toP b) := by rw [pyD_is hy, pyD_pl 11 b 12 (by decide) h2]
  have e := eqv_pl 11 11 a b h1 h2
  have s1 := shaped_pl (Nat.le_refl _) h1
  have s2 := shaped_pl (Nat.le_refl _) h2
  have gen : (match pyD 12 G x, pyD 12 G y with
    | some a, some b => if (PySem.SeqAt.shaped a && PySem.SeqAt.shaped b) = true then RE.ok (D.bl (xor neg (PyData.eqv a b))) G else .bad
    | _, _ => .bad) = .ok (.bl (xor neg (beqD a b))) G := by
    rw [p1, p2]
    simp only [s1, s2, Bool.and_self, if_true, e]
  unfold cEqB
  split
  · rcases hx with rfl | ⟨_, _, z, _⟩
    · rcases hy with rfl | ⟨_, _, z, _⟩
      · simp [beqD]
      · cases z
    · cases z
  · rcases hx with rfl | ⟨_, _, z, _⟩
    · rcases hy with rfl | ⟨_, _, z, _⟩
      · simp [beqD]
      · cases z
    · cases z
  · rcases hx with rfl | ⟨_, _, z, _⟩
    · simp [plD] at h1
    · cases z
  · exact gen
theorem cEq_same {neg : Bool} {x y a : D} {G : GS} (hx : isD G x a) (hy : isD G y a) (h1 : plD 11 a = true) : cEqB neg x y G = .ok (.bl (xor neg true)) G := by
  rw [cEq_pl hx hy h1 h1, beqD_refl]
theorem beqD_dec {a b : D} : beqD a b = true ↔ a = b := ⟨beqD_eq, fun h => by rw [h]; exact beqD_refl b⟩
theorem plD_ints {k : Nat} (l : List Int) : plDs k (l.map D.int) = true := plDs_all.mpr fun d hd => by
  obtain ⟨i, _, rfl⟩ := List.mem_map.mp hd
  cases k <;> rfl
/-! ## (x,) * n, and + of tuples -/
end Dl
/-! several except clauses, with names, of one class or of a tuple of classes -/
namespace L2
open PySem PySem.Spec PyProof.Rows
inductive Tst (X : Cx) : Expr → List Value → Prop
  | one {x : Str} {c : Value} {np : Pos} (hc : Names X x c) : Tst X (.Name x np) [c]
  | two {x1 x2 : Str} {c1 c2 : Value} {p1 p2 tpos : Pos} {kk : Nat} (h1 : Names X x1 c1) (h2 : Names X x2 c2) : Tst X (.Tuple [.Name x1 p1, .Name x2 p2] kk tpos) [c1, c2]
  | three {x1 x2 x3 : Str} {c1 c2 c3 : Value} {p1 p2 p3 tpos : Pos} {kk : Nat} (h1 : Names X x1 c1) (h2 : Names X x2 c2) (h3 : Names X x3 c3) : Tst X (.Tuple [.Name x1 p1, .Name x2 p2, .Name x3 p3] kk tpos) [c1, c2, c3]
abbrev HG := List Value × Option Nat × (Addr → Value → Option Addr → TS)
abbrev unE (i : Nat) (D : Ends) : Ends := { nx := fun σ' H' => D.nx (σ'.set i none) H', rt := D.rt, bk := fun σ' H' => D.bk (σ'.set i none) H', ct := fun σ' H' => D.ct (σ'.set i none) H' }
def wG (K : PySem.W.Frag) (Wout : WX) (D : Ends) : List HG → WX
  | [] => Wout
  | (cs, o, ts) :: r => fun cls d σ H => ∃ b, PySem.W.exmAny K cls cs = some b ∧ (b = true → ∀ a, H a = none → (match o with | none => ts a cls d D σ H | some i => ts a cls d (unE i D) (σ.set i (some (.ref a))) H)) ∧ (b = false → wG K Wout D r cls d σ H)
inductive HdsG (X : Cx) : List ExceptHandler → List HG → Prop
  | nil : HdsG X [] []
  | cons {t : Expr} {cs : List Value} {ts : Addr → Value → Option Addr → TS} {b₀ : Stmt} {suite : List Stmt} {pos' : Pos} {hds : List ExceptHandler} {l : List HG} (ht : Tst X t cs)
      (hsu : ∀ (a : Addr) (oe : Obj) (cls : Value) (d : Option Addr) (pn : List (Addr × Obj)), Zc cls d oe → (∃ vs, oe.data = .fields vs) → PSs (X.suite a ((a, oe) :: pn)) (b₀ :: suite) (ts a cls d)) (r : HdsG X hds l) :
      HdsG X (.ExceptHandler (some t) none (b₀ :: suite) pos' :: hds) ((cs, none, ts) :: l)
  | cas {t : Expr} {cs : List Value} {ts : Addr → Value → Option Addr → TS} {b₀ : Stmt} {suite : List Stmt} {pos' : Pos} {n : Str} {i : Nat} {hds : List ExceptHandler} {l : List HG} (ht : Tst X t cs) (hN : X.N.Nodup) (hi : X.N[i]? = some n) (hln : X.env.kindOf n = some .local)
      (hsu : ∀ (a : Addr) (oe : Obj) (cls : Value) (d : Option Addr) (pn : List (Addr × Obj)), Zc cls d oe → (∃ vs, oe.data = .fields vs) → PSs (X.suite a ((a, oe) :: pn)) (b₀ :: suite) (ts a cls d)) (r : HdsG X hds l) :
      HdsG X (.ExceptHandler (some t) (some n) (b₀ :: suite) pos' :: hds) ((cs, some i, ts) :: l)
theorem HdsG.cut {X : Cx} {h : ExceptHandler} {hds : List ExceptHandler} {l : List HG} (H : HdsG X (h :: hds) l) : ∃ t n b₀ suite pos', h = .ExceptHandler (some t) n (b₀ :: suite) pos' := by
  cases H with
  | cons => exact ⟨_, _, _, _, _, rfl⟩
  | cas => exact ⟨_, _, _, _, _, rfl⟩
section
variable {base : Heap} {l : List Env} {e : Addr} {Z : Obj → Prop} {h h' : Heap}
theorem flying_grow (f : HandSPX.FlyingZ base l e Z h) (k : ∀ b o, h.get? b = some o → h'.get? b = some o) : HandSPX.FlyingZ base l e Z h' := by
  obtain ⟨f1, f2, f3, oe, vs, T, oT, ts, g1, g2, g3, g4, g5, g6, g7, g8, g9⟩ := f
  exact ⟨fun b o hb => k _ _ (f1 b o hb), f2, f3.of_keeps (fun b o hb _ => ⟨o, k _ _ hb, rfl⟩), oe, vs, T, oT, ts, k _ _ g1, g2, g3, g4, g5, g6, k _ _ g7, g8, g9⟩
theorem up_grow (k : ∀ b o, h.get? b = some o → h'.get? b = some o) : h.UpToSlots h' := fun b o hb _ => ⟨o.slots, k _ _ hb⟩
end
section
variable {X : Cx} {pins : List (Addr × Obj)} {σ : L2.St} {H : Hp} {s : Shared} {a : Addr} {oe : Obj} {cls : Value}
/-- the test of a clause: it answers, in a heap that has grown -/
theorem tst_ok {t : Expr} {cs : List Value} {b : Bool} (ht : Tst X t cs) (S : Inv (X.suite a ((a, oe) :: (X.pn ++ pins))) [] σ H s) (kIn : X.K.In s.heap) (he : s.heap.get? a = some oe) (hz : oe.cls = cls) (hb : PySem.W.exmAny X.K cls cs = some b)
    {A : Around} {E : Value → Shared → Prop} {Q : Bool → Shared → Prop} (hq : ∀ h', (∀ b o, s.heap.get? b = some o → h'.get? b = some o) → Q b { s with heap := h' }) :
    wpAny (model X.prog X.w) (X.A.mark (some (.ref a))) (eval t X.env) (fun c s₁ => wpAny (model X.prog X.w) A (excMatches (.ref a) c) Q E s₁) E s := by
  have LT : PySem.W.Looks (model X.prog X.w) s.heap (typeOf (.ref a)) cls := fun A Q E s k q => wpAny_typeOf_ref (k _ _ he) (by rw [hz]; exact q)
  have nm : ∀ {x : Str} {c : Value} {np : Pos}, Names X x c → ∀ {Q : Value → Shared → Prop} {E : Value → Shared → Prop}, Q c s → wpAny (model X.prog X.w) (X.A.mark (some (.ref a))) (eval (.Name x np) X.env) Q E s := by
    intro x c np hc Q E q
    obtain ⟨hg, hdbg, hm | ⟨hm, hv, hnn⟩⟩ := hc
    · exact ld_glob (X := X.suite a ((a, oe) :: (X.pn ++ pins))) S hg hm q hdbg
    · exact ld_blt (X := X.suite a ((a, oe) :: (X.pn ++ pins))) S hg hm hv q hnn hdbg
  cases ht with
  | one hc =>
    obtain ⟨b1, d1, x1, y1, z1⟩ := PySem.W.exmAny_cons hb
    have : some false = some d1 := y1
    cases this
    have z2 : b = b1 := by rw [z1, Bool.or_false]
    subst z2
    exact nm hc ((PySem.W.exm_one (M := model X.prog X.w) kIn LT x1).here (hq s.heap fun _ _ z => z))
  | two h1 h2 =>
    rename_i x1 x2 c1 c2 p1 p2 tpos kk
    refine wpAny_Tuple ?_
    refine wpAny_items_cons (nm h1 ?_)
    refine wpAny_items_cons (nm h2 ?_)
    refine wpAny_items_nil ⟨by size_fits, ?_⟩
    have kp : ∀ q o, s.heap.get? q = some o → (s.heap.push { cls := .type "tuple", data := .seq [c1, c2].toArray }).get? q = some o := fun _ _ z => Heap.get?_push_of_some _ z
    exact (PySem.W.exm_tup2 (M := model X.prog X.w) (kIn.keeps kp) (LT.keeps kp) (Heap.get?_push_size s.heap rfl) hb).here (hq _ kp)
  | three h1 h2 h3 =>
    rename_i x1 x2 x3 c1 c2 c3 p1 p2 p3 tpos kk
    refine wpAny_Tuple ?_
    refine wpAny_items_cons (nm h1 ?_)
    refine wpAny_items_cons (nm h2 ?_)
    refine wpAny_items_cons (nm h3 ?_)
    refine wpAny_items_nil ⟨by size_fits, ?_⟩
    have kp : ∀ q o, s.heap.get? q = some o → (s.heap.push { cls := .type "tuple", data := .seq [c1, c2, c3].toArray }).get? q = some o := fun _ _ z => Heap.get?_push_of_some _ z
    exact (PySem.W.exm_tup3 (M := model X.prog X.w) (kIn.keeps kp) (LT.keeps kp) (Heap.get?_push_size s.heap rfl) hb).here (hq _ kp)
end
section
variable {X : Cx} {body : List Stmt} {h₀ : ExceptHandler} {hds : List ExceptHandler} {l : List HG} {pos : Pos} {tb : WX → TS} {Wout : WX}
theorem ps_try_gen (hs : X.stack = X.env :: X.outer) (hf : X.env.frame = some X.env.locals) (tk : Takes X Wout)
    (hb : ∀ (W : WX) (pn : List (Addr × Obj)) (xe : Value → Shared → Prop), Takes (X.tr pn xe) W → PassesOwn (model X.prog X.w) X.A X.env xe → PSs (X.tr pn xe) body (tb W))
    (hh : HdsG X (h₀ :: hds) l) : PS X (.Try body (h₀ :: hds) [] [] pos) (fun D σ H => tb (wG X.K Wout D l) D σ H) := by
  refine ⟨fun pins s σ H D I h => ?_⟩
  have ok := I.ok
  have hfr : X.A.frames = some (X.env :: X.outer) := by rw [ok.frames, hs]
  refine wpAny_Try_except ?_
  refine wpAny_mono ((hb (wG X.K Wout D l) (X.pn ++ pins) (fun e s₁ => wpAny (model X.prog X.w) X.A (noteFrame e X.env) (fun _ s₂ => wpAny (model X.prog X.w) X.A (setFlight e none) (fun _ s₃ =>
    wpAny (model X.prog X.w) X.A (handleBy e X.env (h₀ :: hds)) (SP X pins D) X.xe s₃) X.xe s₂) X.xe s₁) (fun u s' xx => ?_) PassesOwn.looking).run [] s σ H D (I.toTry _) h) (fun f s1 hsp => ?_) (fun e s1 he => he)
  · -- the catch
    obtain ⟨a, B, sI, pins', σ', H', cls, d, rfl, J', nb, up, sky, na, os, ag, w⟩ := xx
    have J : Inv X pins σ' H' sI := J'.ofTry ok
    have sky' : Sky B (X.env :: X.outer) a (Zc cls d) X.env.locals s'.heap := by rw [← hs]; exact sky
    show wpAny (model X.prog X.w) X.A (noteFrame (.ref a) X.env) _ _ _
    refine Sky.land Zc.steady hfr hf sky' fun h3 fl3 up3 => ?_
    have notFr : ∀ {h : Heap} {o : Obj} {vs : Array Value}, h.FunFrames B (X.env :: X.outer) → h.get? a = some o → o.data = .fields vs → a ∉ frs (X.env :: X.outer) := fun {h o vs} ff e dd hm => by
      obtain ⟨_, o', e', hnf⟩ := ff.mem hm
      rw [e] at e'; cases e'
      exact hnf _ dd
    have nL : a ≠ X.env.locals := by
      obtain ⟨oe3, vs3, he3, hz3, hd3⟩ := fl3.there
      have nfr := notFr fl3.2.2.1 he3 hd3
      exact fun z => nfr (List.mem_filterMap.mpr ⟨X.env, List.mem_cons_self, by rw [hf, z]⟩)
    have nF : a ∉ X.fs := by
      obtain ⟨oe3, vs3, he3, hz3, hd3⟩ := fl3.there
      have nfr := notFr fl3.2.2.1 he3 hd3
      exact fun hm => by
        obtain ⟨e, he, q⟩ := List.mem_filterMap.mp hm
        exact nfr (List.mem_filterMap.mpr ⟨e, List.mem_cons_of_mem _ he, q⟩)
    have go : ∀ {hds' : List ExceptHandler} {l' : List HG}, HdsG X hds' l' → ∀ (hc : Heap), HandSPX.FlyingZ B (X.env :: X.outer) a (Zc cls d) hc → sI.heap.UpToSlots hc → wG X.K Wout D l' cls d σ' H' →
        wpAny (model X.prog X.w) X.A (handleBy (.ref a) X.env hds') (SP X pins D) X.xe { s' with heap := hc } := by
      intro hds' l' hk
      induction hk with
      | nil =>
        intro hc flc upc w
        refine wpAny_handleBy_nil ?_
        obtain ⟨k1, k2, k3, oe, vs, T, oT, ts', he, hz, hd, h1, hr⟩ := id flc
        unfold PySem.passOn
        refine wpAny_bind (wpAny_field he hd h1 ?_)
        rw [if_neg (show ¬ ((Value.ref T == Value.none) = true) from by simp)]
        have fin : wpAny (model X.prog X.w) X.A (setFlight (.ref a) X.env.frame) (fun _ s4 => wpAny (model X.prog X.w) X.A (throw (.ref a) : Sem Flow) (SP X pins D) X.xe s4) X.xe { s' with heap := hc } := by
          rw [hf]
          refine HandSPX.setFlight_upZ flc fun h4 hh4 up4 => wpAny_throw (tk _ _ ?_)
          exact ⟨a, B, sI, pins, σ', H', cls, d, rfl, J, nb, upc.trans up4, .inr (.inr (by rw [hs]; exact hh4)), na, os, ag, w⟩
        first
          | exact wpAny_bind (wpAny_pure (wpAny_bind fin))
          | exact wpAny_bind fin
      | @cons t cs ts b₀ suite pos' hds2 l2 ht hsu r ih =>
        intro hc flc upc w
        obtain ⟨b, hb1, hyes, hno⟩ := w
        obtain ⟨oe3, vs3, he3, hz3, hd3⟩ := flc.there
        have J3 : Inv X pins σ' H' { s' with heap := hc } := J.landed nb flc.1 upc os ag
        have S3 := J3.suite he3 hd3 na nL nF
        refine wpAny_handleBy_cons (codeAny_handlers_test ?_) (by intro q; cases q)
        refine tst_ok ht S3 J3.kIn he3 hz3.1 hb1 fun hg kg => ?_
        have flg := flying_grow flc kg
        have upg := upc.trans (up_grow kg)
        cases b with
        | true =>
          refine codeAny_handlers_suite ?_
          refine HandSPX.lands_againZ flg fun h4 fl4 up4 => ?_
          have J4 : Inv X pins σ' H' { s' with heap := h4 } := J.landed nb fl4.1 (upg.trans up4) os ag
          obtain ⟨oe4, vs4, he4, hz4, hd4⟩ := fl4.there
          have S4 := J4.suite he4 hd4 na nL nF
          refine wpAny_mono ((hsu a oe4 cls d (X.pn ++ pins) hz4 ⟨_, hd4⟩).run [] _ _ H' _ S4 (hyes rfl a na)) (fun f s6 hsp => ?_) (fun _ _ z => False.elim z)
          cases f with
          | next =>
            obtain ⟨σ6, H6, S6, q6⟩ := hsp
            exact ⟨_, _, S6.unsuite ok, q6⟩
          | brk =>
            obtain ⟨σ6, H6, S6, q6⟩ := hsp
            exact ⟨_, _, S6.unsuite ok, q6⟩
          | cont =>
            obtain ⟨σ6, H6, S6, q6⟩ := hsp
            exact ⟨_, _, S6.unsuite ok, q6⟩
          | ret u =>
            obtain ⟨v6, σ6, H6, S6, r6, q6⟩ := hsp
            exact ⟨_, _, _, S6.unsuite ok, r6, q6⟩
        | false =>
          show wpAny _ X.A (handleBy (.ref a) X.env hds2) _ _ _
          exact ih hg flg upg (hno rfl)
      | @cas t cs ts b₀ suite pos' n i hds2 l2 ht hN hi hln hsu r ih =>
        intro hc flc upc w
        obtain ⟨b, hb1, hyes, hno⟩ := w
        obtain ⟨oe3, vs3, he3, hz3, hd3⟩ := flc.there
        have J3 : Inv X pins σ' H' { s' with heap := hc } := J.landed nb flc.1 upc os ag
        have S3 := J3.suite he3 hd3 na nL nF
        refine wpAny_handleBy_cons (codeAny_handlers_test ?_) (by intro q; cases q)
        refine tst_ok ht S3 J3.kIn he3 hz3.1 hb1 fun hg kg => ?_
        have flg := flying_grow flc kg
        have upg := upc.trans (up_grow kg)
        cases b with
        | true =>
          refine codeAny_handlers_suite_as ?_
          refine HandSPX.lands_againZ flg fun h4 fl4 up4 => ?_
          have J4 : Inv X pins σ' H' { s' with heap := h4 } := J.landed nb fl4.1 (upg.trans up4) os ag
          obtain ⟨oe4, vs4, he4, hz4, hd4⟩ := fl4.there
          have S4 := J4.suite he4 hd4 na nL nF
          refine store_ok (X := X.suite a ((a, oe4) :: (X.pn ++ pins))) (v := .ref a) S4 hN hi (.inl hln) rfl (fun s5 S5 => ?_) (.inr hln)
          refine wpAny_mono ((hsu a oe4 cls d (X.pn ++ pins) hz4 ⟨_, hd4⟩).run [] s5 _ H' _ S5 (hyes rfl a na)) (fun f s6 hsp => ?_) (fun _ _ z => False.elim z)
          have end_ : ∀ {σ6 : St} {H6 : Hp} {Q : Shared → Prop}, Inv (X.suite a ((a, oe4) :: (X.pn ++ pins))) [] σ6 H6 s6 → (∀ s7, Inv X pins (σ6.set i none) H6 s7 → Q s7) →
              wpAny (model X.prog X.w) X.A (do bindName X.env n .none; unbindBehindTheSuite X.env n pos') (fun _ s7 => Q s7) X.xe s6 := fun {σ6 H6 Q} S6 hq => gone_ok (S6.unsuite ok) hN hi hln hq
          cases f with
          | next =>
            obtain ⟨σ6, H6, S6, q6⟩ := hsp
            exact end_ S6 fun s7 J7 => ⟨_, _, J7, q6⟩
          | brk =>
            obtain ⟨σ6, H6, S6, q6⟩ := hsp
            exact end_ S6 fun s7 J7 => ⟨_, _, J7, q6⟩
          | cont =>
            obtain ⟨σ6, H6, S6, q6⟩ := hsp
            exact end_ S6 fun s7 J7 => ⟨_, _, J7, q6⟩
          | ret u =>
            obtain ⟨v6, σ6, H6, S6, r6, q6⟩ := hsp
            exact end_ S6 fun s7 J7 => ⟨_, _, _, J7, r6, q6⟩
        | false =>
          show wpAny _ X.A (handleBy (.ref a) X.env hds2) _ _ _
          exact ih hg flg upg (hno rfl)
    exact go hh h3 fl3 (up.trans up3) w
  · cases f with
    | next =>
      obtain ⟨σ', H', J', q⟩ := hsp
      exact wpAny_execs_nil ⟨σ', H', J'.ofTry ok, q⟩
    | brk =>
      obtain ⟨σ', H', J', q⟩ := hsp
      exact ⟨σ', H', J'.ofTry ok, q⟩
    | cont =>
      obtain ⟨σ', H', J', q⟩ := hsp
      exact ⟨σ', H', J'.ofTry ok, q⟩
    | ret u =>
      obtain ⟨v, σ', H', J', r, q⟩ := hsp
      exact ⟨v, σ', H', J'.ofTry ok, r, q⟩
end
end L2
namespace Dl
open PySem L2
/-! ## except clauses over data -/
inductive HD where
  | pl (cs : List Str) (o : Option Nat) (h : DS)
  | rd (c : Str) (i : Nat) (h : Addr → Addr → DS)
def mtB (tbl : List (Str × Str × Bool)) (c c' : Str) : Option Bool := (tbl.find? fun t => decide (t.1 = c) && decide (t.2.1 = c')).map (·.2.2)
def mtA (tbl : List (Str × Str × Bool)) (c : Str) : List Str → Option Bool
  | [] => some false
  | c' :: r => match mtB tbl c c', mtA tbl c r with
    | some a, some b => some (a || b)
    | _, _ => none
def endO (o : Option Nat) (r : RSt) : RSt := match o with
  | some i => endTry i r
  | none => match r with
    | .exc _ _ _ _ => .bad
    | r => r
def hideO (o : Option Nat) (σ : PEnv) : PEnv := match o with | some i => σ.set i none | none => σ
def exnD (a dd : Addr) (fs : List (Str × D)) : D := .exn a dd (fs.map (·.1)) (fs.map (·.2))
def hdl (tbl : List (Str × Str × Bool)) (c : Str) (fs : List (Str × D)) (σ : PEnv) (G : GS) : List HD → RSt
  | [] => .exc c fs σ G
  | .pl cs o h :: r => match mtA tbl c cs with
    | some true => endO o (h (hideO o σ) G)
    | some false => hdl tbl c fs σ G r
    | none => .bad
  | .rd c' i h :: r => match mtB tbl c c' with
    | some true => if c = c' ∧ fs ≠ [] then endTry i (h 0 0 (σ.set i (some (exnD 0 0 fs))) G) else .bad
    | some false => hdl tbl c fs σ G r
    | none => .bad
def sTryM (tbl : List (Str × Str × Bool)) (b : DS) (hs : List HD) : DS := fun σ G => match b σ G with
  | .exc c fs σ1 G1 => hdl tbl c fs σ1 G1 hs
  | r => r
/-- what the table says holds -/
def TblOk (K : PySem.W.Frag) (mg : MG) (tbl : List (Str × Str × Bool)) : Prop := ∀ t ∈ tbl, ∀ C C', mg t.1 = some (.ref C) → mg t.2.1 = some (.ref C') → PySem.W.exmOne K (.ref C) (.ref C') = some t.2.2
theorem mtB_ok {K : PySem.W.Frag} {mg : MG} {tbl : List (Str × Str × Bool)} (T : TblOk K mg tbl) {c c' : Str} {b : Bool} (h : mtB tbl c c' = some b) {C C' : Addr} (h1 : mg c = some (.ref C)) (h2 : mg c' = some (.ref C')) : PySem.W.exmOne K (.ref C) (.ref C') = some b := by
  unfold mtB at h
  rw [Option.map_eq_some_iff] at h
  obtain ⟨t, ht, rfl⟩ := h
  have hp := List.find?_some ht
  simp only [Bool.and_eq_true, decide_eq_true_eq] at hp
  exact T t (List.mem_of_find?_eq_some ht) C C' (by rw [hp.1]; exact h1) (by rw [hp.2]; exact h2)
theorem mtA_ok {K : PySem.W.Frag} {mg : MG} {tbl : List (Str × Str × Bool)} (T : TblOk K mg tbl) {c : Str} {C : Addr} (h1 : mg c = some (.ref C)) : ∀ {cs : List Str} {b : Bool}, mtA tbl c cs = some b → (∀ c' ∈ cs, mg c' = some (.ref (He.ga K c'))) → PySem.W.exmAny K (.ref C) (cs.map fun c' => Value.ref (He.ga K c')) = some b
  | [], b, h, _ => by simp only [mtA, Option.some.injEq] at h; subst h; rfl
  | c' :: r, b, h, hm => by
    simp only [mtA] at h
    cases e1 : mtB tbl c c' with
    | none => rw [e1] at h; cases h
    | some a =>
      rw [e1] at h
      cases e2 : mtA tbl c r with
      | none => rw [e2] at h; cases h
      | some b2 =>
        rw [e2] at h
        simp only [Option.some.injEq] at h
        subst h
        have h3 := mtB_ok T e1 h1 (hm c' List.mem_cons_self)
        have h4 := mtA_ok T h1 e2 fun x hx => hm x (List.mem_cons_of_mem _ hx)
        rw [List.map_cons]
        unfold PySem.W.exmAny
        rw [h3]
        simp only [h4]
def refG (K : PySem.W.Frag) (cs : List Str) : List Value := cs.map fun c' => Value.ref (He.ga K c')
def toG (K : PySem.W.Frag) (mg : MG) : HD → HG
  | .pl cs o h => (refG K cs, o, fun _ _ _ => tS K mg WN h)
  | .rd c i h => (refG K [c], some i, fun a cls d D σ H => cls = .ref (He.ga K c) ∧ ∃ dx, d = some dx ∧ tS K mg WN (h a dx) D σ H)
def parOk : HD → Prop
  | .pl _ _ _ => True
  | .rd _ i h => ∀ (a dd : Addr) (fs : List (Str × D)) (σ : PEnv) (G : GS), endTry i (h a dd (σ.set i (some (exnD a dd fs))) G) = endTry i (h 0 0 (σ.set i (some (exnD 0 0 fs))) G)
def clsOf : HD → List Str
  | .pl cs _ _ => cs
  | .rd c _ _ => [c]
theorem end_un {K : PySem.W.Frag} {mg : MG} {W : WX} {ρ ρ' : List Addr} {H H' : Hp} {D : Ends} {i : Nat} {r : RSt} (e : Ext ρ H ρ' H') (h : SPst K mg W ρ H (endTry i r) D) : SPst K mg WN ρ' H' r (unE i D) := by
  cases r with
  | nx σ2 G2 => exact fun ρ2 H2 σ3 e2 c2 => h ρ2 H2 _ (e.trans e2) (c2.hide i none)
  | ret d G2 => exact fun ρ2 H2 v e2 s2 r2 => h ρ2 H2 v (e.trans e2) s2 r2
  | brk σ2 G2 => exact fun ρ2 H2 σ3 e2 c2 => h ρ2 H2 _ (e.trans e2) (c2.hide i none)
  | cont σ2 G2 => exact fun ρ2 H2 σ3 e2 c2 => h ρ2 H2 _ (e.trans e2) (c2.hide i none)
  | exc _ _ _ _ => exact h.elim
  | bad => exact h.elim
theorem end_no {K : PySem.W.Frag} {mg : MG} {W : WX} {ρ ρ' : List Addr} {H H' : Hp} {D : Ends} {r : RSt} (e : Ext ρ H ρ' H') (h : SPst K mg W ρ H (endO none r) D) : SPst K mg WN ρ' H' r D := by
  cases r with
  | nx σ2 G2 => exact fun ρ2 H2 σ3 e2 c2 => h ρ2 H2 _ (e.trans e2) c2
  | ret d G2 => exact fun ρ2 H2 v e2 s2 r2 => h ρ2 H2 v (e.trans e2) s2 r2
  | brk σ2 G2 => exact fun ρ2 H2 σ3 e2 c2 => h ρ2 H2 _ (e.trans e2) c2
  | cont σ2 G2 => exact fun ρ2 H2 σ3 e2 c2 => h ρ2 H2 _ (e.trans e2) c2
  | exc _ _ _ _ => exact h.elim
  | bad => exact h.elim
theorem wish_ok {K : PySem.W.Frag} {mg : MG} {W : WX} {tbl : List (Str × Str × Bool)} (T : TblOk K mg tbl) {ρ : List Addr} {H : Hp} {De : Ends} {c : Str} {fs : List (Str × D)} {σd : PEnv} {G : GS} : ∀ (l : List HD), (∀ h ∈ l, parOk h ∧ ∀ c' ∈ clsOf h, mg c' = some (.ref (He.ga K c'))) → SPst K mg W ρ H (hdl tbl c fs σd G l) De →
    ∀ {ρ' : List Addr} {H' : Hp} {σ : L2.St} {C : Addr} {od : Option Addr}, Ext ρ H ρ' H' → Ct K mg ρ' σd G σ H' → mg c = some (.ref C) → RX K ρ' H' od fs → wG K W De (l.map (toG K mg)) (.ref C) od σ H'
  | [], _, h, ρ', H', σ, C, od, e, ct, hC, rx => h ρ' H' σ C od e ct hC rx
  | .pl cs o dh :: l, hp, h, ρ', H', σ, C, od, e, ct, hC, rx => by
    simp only [hdl] at h
    cases em : mtA tbl c cs with
    | none => rw [em] at h; exact h.elim
    | some b =>
      rw [em] at h
      have hm := mtA_ok T hC em (hp _ List.mem_cons_self).2
      refine ⟨b, hm, fun hb a ha => ?_, fun hb => ?_⟩
      · subst hb
        cases o with
        | none => exact ⟨ρ', σd, G, ct, end_no e h⟩
        | some i => exact ⟨ρ', σd.set i none, G, ct.hide i _, end_un e h⟩
      · subst hb
        exact wish_ok T l (fun x hx => hp x (List.mem_cons_of_mem _ hx)) h e ct hC rx
  | .rd c' i dh :: l, hp, h, ρ', H', σ, C, od, e, ct, hC, rx => by
    simp only [hdl] at h
    cases em : mtB tbl c c' with
    | none => rw [em] at h; exact h.elim
    | some b =>
      rw [em] at h
      have hg := (hp _ List.mem_cons_self).2 c' List.mem_cons_self
      have hm := mtB_ok T em hC hg
      refine ⟨b, by show PySem.W.exmAny K (.ref C) [Value.ref (He.ga K c')] = some b; unfold PySem.W.exmAny; rw [hm]; simp [PySem.W.exmAny], fun hb a ha => ?_, fun hb => ?_⟩
      · subst hb
        simp only at h
        split at h
        · rename_i hc
          obtain ⟨rfl, hne⟩ := hc
          have eC : C = He.ga K c := by rw [hg] at hC; cases hC; rfl
          subst eC
          cases od with
          | none => exact absurd (show fs = [] from rx) hne
          | some dx =>
            have hpar := (hp _ List.mem_cons_self).1 a dx fs σd G
            rw [← hpar] at h
            obtain ⟨us, r1, r2, r3, r4⟩ := rx
            exact ⟨rfl, dx, rfl, ρ', σd.set i (some (exnD a dx fs)), G, ct.set (show RD K ρ' H' (exnD a dx fs) (.ref a) from ⟨rfl, us, r1, r2, r3, r4⟩), end_un e h⟩
        · exact h.elim
      · subst hb
        exact wish_ok T l (fun x hx => hp x (List.mem_cons_of_mem _ hx)) h e ct hC rx
/-- clauses and their data -/
inductive HdD (X : Cx) : List ExceptHandler → List HD → Prop
  | nil : HdD X [] []
  | pl {t : Expr} {cs : List Str} {dh : DS} {b₀ : Stmt} {suite : List Stmt} {pos' : Pos} {hds : List ExceptHandler} {l : List HD} (ht : Tst X t (refG X.K cs)) (hm : ∀ c' ∈ cs, X.mg c' = some (.ref (He.ga X.K c')))
      (hh : ∀ (a : Addr) (oe : Obj) (pn : List (Addr × Obj)), PSsd (X.suite a ((a, oe) :: pn)) WN (b₀ :: suite) dh) (r : HdD X hds l) : HdD X (.ExceptHandler (some t) none (b₀ :: suite) pos' :: hds) (.pl cs none dh :: l)
  | plas {t : Expr} {cs : List Str} {dh : DS} {b₀ : Stmt} {suite : List Stmt} {pos' : Pos} {n : Str} {i : Nat} {hds : List ExceptHandler} {l : List HD} (ht : Tst X t (refG X.K cs)) (hm : ∀ c' ∈ cs, X.mg c' = some (.ref (He.ga X.K c'))) (hN : X.N.Nodup) (hi : X.N[i]? = some n) (hln : X.env.kindOf n = some .local)
      (hh : ∀ (a : Addr) (oe : Obj) (pn : List (Addr × Obj)), PSsd (X.suite a ((a, oe) :: pn)) WN (b₀ :: suite) dh) (r : HdD X hds l) : HdD X (.ExceptHandler (some t) (some n) (b₀ :: suite) pos' :: hds) (.pl cs (some i) dh :: l)
  | rd {t : Expr} {c : Str} {dh : Addr → Addr → DS} {b₀ : Stmt} {suite : List Stmt} {pos' : Pos} {n : Str} {i : Nat} {hds : List ExceptHandler} {l : List HD} (ht : Tst X t (refG X.K [c])) (hm : X.mg c = some (.ref (He.ga X.K c))) (hN : X.N.Nodup) (hi : X.N[i]? = some n) (hln : X.env.kindOf n = some .local) (hp : parOk (.rd c i dh))
      (hh : ∀ (a dx : Addr) (oe : Obj) (pn : List (Addr × Obj)), Zc (.ref (He.ga X.K c)) (some dx) oe → (∃ vs, oe.data = .fields vs) → PSsd (X.suite a ((a, oe) :: pn)) WN (b₀ :: suite) (dh a dx)) (r : HdD X hds l) : HdD X (.ExceptHandler (some t) (some n) (b₀ :: suite) pos' :: hds) (.rd c i dh :: l)
theorem HdD.gen {X : Cx} {hds : List ExceptHandler} {l : List HD} (h : HdD X hds l) : HdsG X hds (l.map (toG X.K X.mg)) ∧ ∀ x ∈ l, parOk x ∧ ∀ c' ∈ clsOf x, X.mg c' = some (.ref (He.ga X.K c')) := by
  induction h with
  | nil => exact ⟨.nil, fun x hx => by simp at hx⟩
  | pl ht hm hh r ih =>
    refine ⟨.cons ht (fun a oe _ _ pn _ _ => hh a oe pn) ih.1, fun x hx => ?_⟩
    rcases List.mem_cons.mp hx with rfl | hx
    · exact ⟨trivial, hm⟩
    · exact ih.2 x hx
  | plas ht hm hN hi hln hh r ih =>
    refine ⟨.cas ht hN hi hln (fun a oe _ _ pn _ _ => hh a oe pn) ih.1, fun x hx => ?_⟩
    rcases List.mem_cons.mp hx with rfl | hx
    · exact ⟨trivial, hm⟩
    · exact ih.2 x hx
  | rd ht hm hN hi hln hp hh r ih =>
    refine ⟨.cas ht hN hi hln (fun a oe cls d pn hz hf => ⟨fun pins s σ H D I ⟨ec, dx, ed, q⟩ => ?_⟩) ih.1, fun x hx => ?_⟩
    · subst ec
      subst ed
      exact (hh a dx oe pn hz hf).run pins s σ H D I q
    · rcases List.mem_cons.mp hx with rfl | hx
      · exact ⟨hp, fun c' hc => by rw [List.mem_singleton.mp hc]; exact hm⟩
      · exact ih.2 x hx
section
variable {X : Cx} {W : WX}
theorem le_tryM {tbl : List (Str × Str × Bool)} {body : List Stmt} {h₀ : ExceptHandler} {hds : List ExceptHandler} {l : List HD} {pos : Pos} {db : DS} (T : TblOk X.K X.mg tbl)
    (hs : X.stack = X.env :: X.outer) (hf : X.env.frame = some X.env.locals) (tk : Takes X W)
    (hb : ∀ (W' : WX) (pn : List (Addr × Obj)) (xe : Value → Shared → Prop), Takes (X.tr pn xe) W' → PassesOwn (model X.prog X.w) X.A X.env xe → PSsd (X.tr pn xe) W' body db)
    (hh : HdD X (h₀ :: hds) l) : PSd X W (.Try body (h₀ :: hds) [] [] pos) (sTryM tbl db l) := by
  obtain ⟨h1, h2⟩ := hh.gen
  refine (ps_try_gen (tb := fun W' => tS X.K X.mg W' db) hs hf tk hb h1).le fun D σ H ⟨ρ, σd, G, ct, h⟩ => ⟨ρ, σd, G, ct, ?_⟩
  unfold sTryM at h
  cases q : db σd G with
  | nx _ _ => rw [q] at h; exact h
  | ret _ _ => rw [q] at h; exact h
  | brk _ _ => rw [q] at h; exact h
  | cont _ _ => rw [q] at h; exact h
  | bad => rw [q] at h; exact h
  | exc c fs σ1 G1 =>
    rw [q] at h
    exact fun ρ' H' σ' C od e ct' hC rx => wish_ok T l h2 h e ct' hC rx
/-- e.f of a caught exception -/
def eXf (a dd : Addr) (i : Nat) (f : Str) : DE := fun σ G => match σ[i]? with
  | some (some (.exn a' dd' ks ds)) => if a' = a ∧ dd' = dd then (match (ks.zip ds).lookup f with | some d => .ok d G | none => .bad) else .bad
  | _ => .bad
theorem xf_lookup {K : PySem.W.Frag} {ρ : List Addr} {H : Hp} {f : Str} : ∀ {ks : List Str} {ds : List D} {us : List (Str × V)} {d : D}, us.map (·.1) = ks → RDs K ρ H ds (us.map (·.2)) → (ks.zip ds).lookup f = some d → ∃ v, us.lookup f = some v ∧ RD K ρ H d v
  | [], _, us, d, _, _, h => by simp at h
  | _ :: _, [], us, d, h1, h2, h => by simp at h
  | k :: ks, x :: ds, [], d, h1, _, _ => by simp at h1
  | k :: ks, x :: ds, (k', v) :: us, d, h1, ⟨v', r, e, r1, r2⟩, h => by
    simp only [List.map_cons, List.cons.injEq] at h1 e
    obtain ⟨rfl, h1⟩ := h1
    obtain ⟨rfl, rfl⟩ := e
    rw [List.zip_cons_cons, List.lookup_cons] at h
    rw [List.lookup_cons]
    cases hk : (f == k') with
    | true =>
      rw [hk] at h
      cases h
      exact ⟨_, rfl, r1⟩
    | false =>
      rw [hk] at h
      exact xf_lookup h1 r2 h
theorem le_xf {a dx : Addr} {oe : Obj} {pn : List (Addr × Obj)} {c n v : Str} {i : Nat} {p pos : Pos} (T : XfC X.K (He.ga X.K c)) (hno : PySem.W.findIn X.K (.ref (He.ga X.K c)) n = some none) (hz : Zc (.ref (He.ga X.K c)) (some dx) oe) (hf : ∃ vs, oe.data = .fields vs)
    (he : PEd (X.suite a ((a, oe) :: pn)) W (.Name v p) (eVar i)) (hb : attributeBase (.Name v p) n X.env (eval (.Name v p) X.env) = eval (.Name v p) X.env := by rfl) : PEd (X.suite a ((a, oe) :: pn)) W (.Attribute (.Name v p) n pos) (eXf a dx i n) := by
  refine (pe_xf T hno hz hf he hb).le fun σ H Q ⟨ρ, σd, G, c, h⟩ => ?_
  unfold eXf at h
  cases q : σd[i]? with
  | none => rw [q] at h; exact h.elim
  | some o =>
    cases o with
    | none => rw [q] at h; exact h.elim
    | some d =>
      cases d with
      | exn a' dd' ks ds =>
        rw [q] at h
        simp only at h
        split at h
        · rename_i hc
          obtain ⟨rfl, rfl⟩ := hc
          cases ql : (ks.zip ds).lookup n with
          | none => rw [ql] at h; exact h.elim
          | some d =>
            rw [ql] at h
            refine ⟨ρ, σd, G, c, ?_⟩
            have ev : eVar i σd G = .ok (.exn a' dd' ks ds) G := by unfold eVar; rw [q]
            rw [ev]
            rintro ρ1 H1 x e1 s1 ⟨rfl, us, r1, r2, r3, r4⟩
            obtain ⟨v, l1, rv⟩ := xf_lookup r3 r4 ql
            exact ⟨rfl, rfl, dd', us, v, rfl, r1, l1, h ρ1 H1 v e1 s1 rv⟩
        · exact h.elim
      | _ => rw [q] at h; exact h.elim
end
/-! ## a clause that hands back says the same of every address -/
abbrev setX (i : Nat) (σ : PEnv) (a dd : Addr) (fs : List (Str × D)) : PEnv := σ.set i (some (exnD a dd fs))
def IndE {α : Type} (i : Nat) (e : Addr → Addr → PEnv → GS → RE α) : Prop := ∀ (a dd : Addr) (fs : List (Str × D)) (σ : PEnv) (G : GS), e a dd (setX i σ a dd fs) G = e 0 0 (setX i σ 0 0 fs) G
section
variable {i : Nat}
theorem ind_var {j : Nat} (h : i ≠ j) : IndE i fun _ _ => eVar j := fun a dd fs σ G => by
  show eVar j (setX i σ a dd fs) G = eVar j (setX i σ 0 0 fs) G
  unfold eVar setX
  rw [List.getElem?_set_ne h, List.getElem?_set_ne h]
theorem ind_cst {d : D} : IndE i fun _ _ => eCst d := fun _ _ _ _ _ => rfl
theorem ind_xf {f : Str} : IndE i fun a dd => eXf a dd i f := fun a dd fs σ G => by
  show eXf a dd i f (setX i σ a dd fs) G = eXf 0 0 i f (setX i σ 0 0 fs) G
  unfold eXf setX
  by_cases h : i < σ.length
  · rw [List.getElem?_set_self h, List.getElem?_set_self h]
    simp [exnD]
  · rw [List.getElem?_eq_none (by simp; omega), List.getElem?_eq_none (by simp; omega)]
theorem ind_bin {f : D → D → GS → RE D} {x y : Addr → Addr → DE} (h1 : IndE i x) (h2 : IndE i y) : IndE i fun a dd => eBin f (x a dd) (y a dd) := fun a dd fs σ G => by
  show eBin f (x a dd) (y a dd) _ _ = eBin f (x 0 0) (y 0 0) _ _
  unfold eBin
  rw [h1 a dd fs σ G]
  congr 1
  funext u G1
  rw [h2 a dd fs σ G1]
theorem ind_un {f : D → GS → RE D} {x : Addr → Addr → DE} (h1 : IndE i x) : IndE i fun a dd => eUn f (x a dd) := fun a dd fs σ G => by
  show eUn f (x a dd) _ _ = eUn f (x 0 0) _ _
  unfold eUn
  rw [h1 a dd fs σ G]
theorem ind_anil : IndE i fun _ _ => aNil := fun _ _ _ _ _ => rfl
theorem ind_acons {x : Addr → Addr → DE} {r : Addr → Addr → DA} (h1 : IndE i x) (h2 : IndE i r) : IndE i fun a dd => aCons (x a dd) (r a dd) := fun a dd fs σ G => by
  show aCons (x a dd) (r a dd) _ _ = aCons (x 0 0) (r 0 0) _ _
  unfold aCons
  rw [h1 a dd fs σ G]
  congr 1
  funext u G1
  rw [h2 a dd fs σ G1]
theorem ind_tup {r : Addr → Addr → DA} (h : IndE i r) : IndE i fun a dd => eTup (r a dd) := fun a dd fs σ G => by
  show eTup (r a dd) _ _ = eTup (r 0 0) _ _
  unfold eTup
  rw [h a dd fs σ G]
theorem ind_lst {r : Addr → Addr → DA} (h : IndE i r) : IndE i fun a dd => eLst (r a dd) := fun a dd fs σ G => by
  show eLst (r a dd) _ _ = eLst (r 0 0) _ _
  unfold eLst
  rw [h a dd fs σ G]
theorem ind_app {f : List D → GS → RE D} {r : Addr → Addr → DA} (h : IndE i r) : IndE i fun a dd => eApp f (r a dd) := fun a dd fs σ G => by
  show eApp f (r a dd) _ _ = eApp f (r 0 0) _ _
  unfold eApp
  rw [h a dd fs σ G]
theorem ind_call {F : DF} {r : Addr → Addr → DA} (h : IndE i r) : IndE i fun a dd => eCall F (r a dd) := fun a dd fs σ G => by
  show eCall F (r a dd) _ _ = eCall F (r 0 0) _ _
  unfold eCall
  rw [h a dd fs σ G]
theorem ind_ret {c : Str} {x : Addr → Addr → DE} (h : IndE i x) : parOk (.rd c i fun a dd => sRet (x a dd)) := fun a dd fs σ G => by
  show endTry i (sRet (x a dd) _ _) = endTry i (sRet (x 0 0) _ _)
  unfold sRet
  have h1 := h a dd fs σ G
  unfold setX at h1
  rw [h1]
  cases x 0 0 (σ.set i (some (exnD 0 0 fs))) G <;> rfl
end
/-! ## what they do, for proofs -/
theorem wS_tryM {tbl : List (Str × Str × Bool)} {b : DS} {l : List HD} {σ : PEnv} {G : GS} {P : Po} : wS (sTryM tbl b l σ G) P = wS (b σ G) ⟨P.nx, P.rt, P.bk, P.ct, fun c fs σ1 G1 => wS (hdl tbl c fs σ1 G1 l) P⟩ := by
  unfold sTryM
  cases b σ G <;> rfl
theorem wS_end {i : Nat} {r : RSt} {P : Po} : wS (endTry i r) P = wS r (endP i P) := by
  cases r <;> rfl
theorem wE_xf {a dd : Addr} {i : Nat} {f : Str} {σ : PEnv} {G : GS} {E : EK} {Q : D → GS → Prop} {a' dd' : Addr} {ks : List Str} {ds : List D} {d : D} (h : σ[i]? = some (some (.exn a' dd' ks ds))) (h1 : a' = a) (h2 : dd' = dd) (hl : (ks.zip ds).lookup f = some d) : wE (eXf a dd i f σ G) E Q = Q d G := by
  unfold eXf
  rw [h]
  simp only [h1, h2, hl, and_self, if_true]
  rfl
end Dl
namespace Dl
open PySem PySem.Spec PyProof.Rows L2
theorem tuple_mul1 (l : Addr) (items : Array Value) (n : Nat) (dd : Option Addr) (sl : Array (Option Value)) (x : Int) (u : Tok) (c0 : (decide (x < -(2 ^ 63)) || decide (x ≥ 2 ^ 63)) = false) (c1 : (items.isEmpty || x == 1) = true) :
    Meets (Builtin.«tuple.__mul__» ⟨[.ref l, .int x u], []⟩) (fun _ R s => s.heap.get? l = some { cls := .type "tuple", dict := dd, data := .seq items n, slots := sl } ∧ R (.ok (.ret (Value.ref l))) { s with heap := s.heap, toks := s.toks }) :=
  .of_wp fun prog w A R s h => by
    obtain ⟨hp, g, d, tk, os⟩ := s
    obtain ⟨hl, h⟩ := h
    have f1 := AutoSeq1.idx_int
    have f2 := AutoSeq1.sub_tuple_tuple
    wp_walk using wpAny_loadPart' hl
    repeat (first
      | (refine wpAny_ite_false (decide_eq_false (by rw [c0]; exact Bool.false_ne_true)) ?_; wp_walk using wpAny_loadPart' hl)
      | (refine wpAny_ite_true (decide_eq_true (by rw [c1])) ?_; wp_walk using wpAny_loadPart' hl))
    exact ⟨_, rfl, h⟩
def rRepT1 (K : PySem.W.Frag) : R2 := fun x y H Q => ∃ l xs, x = .ref l ∧ y = .int 1 ∧ SqT K H l xs ∧ Q (.ref l) H
section
variable {X : Cx}
theorem op_repT1 : OpR X (binaryOp .Mult) (rRepT1 X.K) := by
  intro pins s σ H x y v u Q I rx ry h
  obtain ⟨l, xs, rfl, rfl, hT, q⟩ := h
  cases rx
  obtain ⟨t, rfl⟩ := ry
  obtain ⟨its, r, ⟨⟨cls, dd, data, sl⟩, ho, hc, n, hd⟩, hs⟩ := I.tuple hT
  simp only at hc hd
  subst hc hd
  have c0 : (decide ((1 : Int) < -(2 ^ 63)) || decide ((1 : Int) ≥ 2 ^ 63)) = false := by
    rw [decide_eq_false (by omega), decide_eq_false (by omega)] <;> rfl
  have c1 : (its.toArray.isEmpty || (1 : Int) == 1) = true := by
    rw [beq_self_eq_true, Bool.or_true]
  refine wpAny_binaryOp_repeat_ref (T := "tuple") (U := "int") (by decide) ⟨_, ho, rfl⟩ (fun s' => typeIs_int s' 1 t) noFill_tuple_mul F.fills_int_mul F.slot_int_rmul repeat_tuple F.slot_int_index.lookup
    (call_meets F.slot_int_rmul (typeIs_int s 1 t) F.entry_int_rmul (F.args_int_rmul_2 _ _) (int_rmul_tuple 1 t l its.toArray n dd sl)
      ⟨ho, rfl, ⟨_, ho, rfl⟩, call_meets F.slot_tuple_mul ⟨_, ho, rfl⟩ F.entry_tuple_mul (F.args_tuple_mul_2 _ _) (tuple_mul1 l its.toArray n dd sl 1 t c0 c1) ⟨ho, ?_⟩⟩)
  exact ⟨.ref l, H, I, rfl, q⟩
theorem mulOk_ex : ∃ f : Int → Nat → Bool, ∀ n l, f n l = (decide (1 ≤ n) && decide (n ≤ 1000) && decide (1 ≤ l) && decide (l ≤ 1000)) := ⟨fun n l => _, fun _ _ => rfl⟩
noncomputable def mulOk : Int → Nat → Bool := Classical.choose mulOk_ex
theorem mulOk_eq (n : Int) (l : Nat) : mulOk n l = (decide (1 ≤ n) && decide (n ≤ 1000) && decide (1 ≤ l) && decide (l ≤ 1000)) := Classical.choose_spec mulOk_ex n l
/-- (x, ..) * n: for n = 1 the tuple itself -/
noncomputable def bMulT (x y : D) (G : GS) : RE D := match x, y with
  | .tup a, .int n => if mulOk n a.length = true then .ok (.tup (repL a n.toNat)) G else .bad
  | _, _ => .bad
def rMulT (K : PySem.W.Frag) : R2 := fun x y H Q => rRepT1 K x y H Q ∨ rRepT K x y H Q
theorem op_mulT : OpR X (binaryOp .Mult) (rMulT X.K) := op_repT1.or op_repT
theorem sv_mulT : Srv2 X (rMulT X.K) bMulT := by
  intro W ρ G H x y dx dy Q s rx ry q
  unfold bMulT at q
  split at q
  · rename_i a n
    cases (show _ = _ from ry)
    split at q
    · rename_i c
      obtain ⟨p, xs, rfl, t1, r1⟩ := id rx
      have l1 := r1.length
      simp only [mulOk_eq, Bool.and_eq_true, decide_eq_true_eq, and_assoc] at c
      by_cases hn : n = 1
      · subst hn
        refine .inl ⟨p, xs, rfl, rfl, t1.sq, ?_⟩
        have e : repL a (1 : Int).toNat = a := by show a ++ repL a 0 = a; show a ++ [] = a; exact List.append_nil a
        rw [e] at q
        exact now q s rx
      · refine .inr ⟨p, n, xs, rfl, rfl, t1.sq, ?_, by omega, by omega, by omega, fun l hl => ?_⟩
        · intro e
          subst e
          have ha : a = [] := List.length_eq_zero_iff.mp l1
          subst ha
          simp at c
        · rw [repL_flat]
          obtain ⟨e, s'⟩ := s.lay (.tup _) hl
          exact q _ _ _ e s' ⟨l, _, rfl, .inl ⟨.inl upd_same, s.fresh hl⟩, (r1.rep _).ext e⟩
    · exact q.elim
  · exact q.elim
theorem bMulT_nat {a : List D} {n : Nat} {G : GS} (h1 : 1 ≤ n) (h2 : n ≤ 1000) (h3 : 1 ≤ a.length) (h4 : a.length ≤ 1000) : bMulT (.tup a) (.int (n : Int)) G = .ok (.tup (repL a n)) G := by
  simp only [bMulT, mulOk_eq]
  rw [if_pos (by simp only [Bool.and_eq_true, decide_eq_true_eq]; omega), Int.toNat_natCast]
end
end Dl
namespace Dl
open PySem L2
/-- except C as e: if <test of e>: return x; return y -/
theorem ind_ifret {i : Nat} {c : Str} {x e1 e2 : Addr → Addr → DE} (h : IndE i x) (h1 : IndE i e1) (h2 : IndE i e2) : parOk (.rd c i fun a dd => sSeq (sIf (dT (x a dd)) (sRet (e1 a dd)) sNil) (sRet (e2 a dd))) := fun a dd fs σ G => by
  have p := h a dd fs σ G
  unfold setX at p
  show endTry i (sSeq (sIf (dT (x a dd)) (sRet (e1 a dd)) sNil) (sRet (e2 a dd)) _ _) = endTry i (sSeq (sIf (dT (x 0 0)) (sRet (e1 0 0)) sNil) (sRet (e2 0 0)) _ _)
  unfold sSeq sIf dT
  rw [p]
  cases x 0 0 (σ.set i (some (exnD 0 0 fs))) G with
  | bad => rfl
  | exc c fs G1 => rfl
  | ok d G1 =>
    show endTry i (seqR (bindS (truth d G1) _ _) _) = endTry i (seqR (bindS (truth d G1) _ _) _)
    cases truth d G1 with
    | bad => rfl
    | exc c fs G1 => rfl
    | ok k G2 =>
      have q1 := h1 a dd fs σ G2
      have q2 := h2 a dd fs σ G2
      unfold setX at q1 q2
      cases k with
      | true =>
        show endTry i (seqR (sRet (e1 a dd) _ G2) _) = endTry i (seqR (sRet (e1 0 0) _ G2) _)
        unfold sRet
        rw [q1]
        cases e1 0 0 (σ.set i (some (exnD 0 0 fs))) G2 <;> rfl
      | false =>
        show endTry i (sRet (e2 a dd) _ G2) = endTry i (sRet (e2 0 0) _ G2)
        unfold sRet
        rw [q2]
        cases e2 0 0 (σ.set i (some (exnD 0 0 fs))) G2 <;> rfl
end Dl
namespace Dl
open PySem PySem.Spec PyProof.Rows L2
/-! ## dicts by tuples of whole numbers -/
def inlT (k : List Int) : List Key := k.map Sum.inl
theorem inlT_inj : ∀ {k l : List Int}, inlT k = inlT l → k = l
  | [], [], _ => rfl
  | [], _ :: _, h => by simp [inlT] at h
  | _ :: _, [], h => by simp [inlT] at h
  | a :: k, b :: l, h => by
    simp only [inlT, List.map_cons, List.cons.injEq, Sum.inl.injEq] at h
    rw [h.1, inlT_inj (k := k) (l := l) h.2]
theorem inlT_kV (k : List Int) : (inlT k).map kV = k.map V.int := by
  unfold inlT
  rw [List.map_map]
  rfl
def lookT (k : List Int) : List (List Int) → List D → Option D
  | l :: ks, d :: ds => if l = k then some d else lookT k ks ds
  | _, _ => none
theorem lookT_is {K : PySem.W.Frag} {ρ : List Addr} {H : Hp} {k : List Int} : ∀ {ks : List (List Int)} {ds : List D} {kvs : List (List Key × V)}, kvs.map (·.1) = ks.map inlT → RDs K ρ H ds (kvs.map (·.2)) →
    (match lookT k ks ds with | some d => ∃ v, valV kvs (inlT k) = some v ∧ RD K ρ H d v | none => valV kvs (inlT k) = none)
  | [], ds, kvs, e, r => by
    cases kvs with
    | nil => cases ds <;> rfl
    | cons _ _ => simp at e
  | l :: ks, ds, [], e, r => by simp at e
  | l :: ks, ds, (k', v) :: kvs, e, r => by
    simp only [List.map_cons, List.cons.injEq] at e
    obtain ⟨e1, e2⟩ := e
    subst e1
    cases ds with
    | nil => cases (show _ = _ from r)
    | cons d ds =>
      obtain ⟨v', r', ev, r1, r2⟩ := r
      simp only [List.map_cons, List.cons.injEq] at ev
      obtain ⟨z1, z2⟩ := ev
      subst z1
      subst z2
      unfold lookT valV
      by_cases h : l = k
      · subst h
        simp only [if_true, List.find?_cons, decide_true, Option.map_some]
        exact ⟨v, rfl, r1⟩
      · have h2 : ¬ inlT l = inlT k := fun z => h (inlT_inj z)
        rw [if_neg h, List.find?_cons]
        simp only [h2, decide_false]
        exact lookT_is e2 r2
def setTs (k : List Int) (d : D) : List (List Int) → List D → List D
  | l :: ks, x :: ds => (if l = k then d else x) :: setTs k d ks ds
  | _, ds => ds
def putTs (k : List Int) (d : D) (ks : List (List Int)) (ds : List D) : List (List Int) × List D := if (ks.any fun l => decide (l = k)) = true then (ks, setTs k d ks ds) else (ks ++ [k], ds ++ [d])
section
variable {K : PySem.W.Frag} {ρ : List Addr} {H : Hp}
theorem setTs_is {k : List Int} {d : D} {v : V} (rd : RD K ρ H d v) : ∀ {ks : List (List Int)} {ds : List D} {kvs : List (List Key × V)}, kvs.map (·.1) = ks.map inlT → RDs K ρ H ds (kvs.map (·.2)) →
    (kvs.map fun kv => if kv.1 = inlT k then (kv.1, v) else kv).map (·.1) = ks.map inlT ∧ RDs K ρ H (setTs k d ks ds) ((kvs.map fun kv => if kv.1 = inlT k then (kv.1, v) else kv).map (·.2))
  | [], ds, kvs, e, r => by
    cases kvs with
    | nil => exact ⟨rfl, by cases ds <;> exact r⟩
    | cons _ _ => simp at e
  | l :: ks, ds, [], e, r => by simp at e
  | l :: ks, ds, (k', u) :: kvs, e, r => by
    simp only [List.map_cons, List.cons.injEq] at e
    obtain ⟨e1, e2⟩ := e
    subst e1
    cases ds with
    | nil => cases (show _ = _ from r)
    | cons x ds =>
      obtain ⟨v', r', ev, r1, r2⟩ := r
      simp only [List.map_cons, List.cons.injEq] at ev
      obtain ⟨z1, z2⟩ := ev
      subst z1
      subst z2
      obtain ⟨q1, q2⟩ := setTs_is (k := k) rd e2 r2
      by_cases h : l = k
      · subst h
        refine ⟨by simp only [List.map_cons, if_true]; rw [q1], ?_⟩
        simp only [List.map_cons, if_true, setTs]
        exact RDs.cons rd q2
      · have h2 : ¬ inlT l = inlT k := fun z => h (inlT_inj z)
        refine ⟨by simp only [List.map_cons, if_neg h2]; rw [q1], ?_⟩
        simp only [List.map_cons, if_neg h2, if_neg h, setTs]
        exact RDs.cons r1 q2
theorem putTs_is {k : List Int} {d : D} {v : V} (rd : RD K ρ H d v) {ks : List (List Int)} {ds : List D} {kvs : List (List Key × V)} (e : kvs.map (·.1) = ks.map inlT) (r : RDs K ρ H ds (kvs.map (·.2))) :
    (putK kvs (inlT k) v).map (·.1) = (putTs k d ks ds).1.map inlT ∧ RDs K ρ H (putTs k d ks ds).2 ((putK kvs (inlT k) v).map (·.2)) := by
  have mem : (kvs.any fun kv => decide (kv.1 = inlT k)) = true ↔ (ks.any fun l => decide (l = k)) = true := by
    rw [List.any_eq_true, List.any_eq_true]
    constructor
    · rintro ⟨kv, h1, h2⟩
      have h3 : kv.1 ∈ ks.map inlT := by rw [← e]; exact List.mem_map_of_mem h1
      obtain ⟨l, hl, el⟩ := List.mem_map.mp h3
      have : l = k := inlT_inj (by rw [el]; exact of_decide_eq_true h2)
      exact ⟨l, hl, decide_eq_true this⟩
    · rintro ⟨l, h, hlk⟩
      have hlk := of_decide_eq_true hlk
      subst hlk
      have h3 : inlT l ∈ kvs.map (·.1) := by rw [e]; exact List.mem_map_of_mem h
      obtain ⟨kv, h1, h2⟩ := List.mem_map.mp h3
      exact ⟨kv, h1, by simpa using h2⟩
  unfold putK putTs
  by_cases h : (ks.any fun l => decide (l = k)) = true
  · rw [if_pos h, if_pos (mem.mpr h)]
    exact setTs_is rd e r
  · rw [if_neg h, if_neg (fun z => h (mem.mp z))]
    refine ⟨by rw [List.map_append, List.map_append, e]; rfl, ?_⟩
    rw [List.map_append]
    exact r.append (RDs.cons rd RDs.nil)
end

section
variable {X : Cx} {W : WX}
/-- {} -/
def eNewT : DE := fun _ G => .ok (.ref G.length) (G ++ [.dcT [] []])
theorem le_newT {pos : Pos} : PEd X W (.Dict [] [] pos) eNewT := by
  refine (pe_dnewT).le fun σ H Q ⟨ρ, σd, G, c, h⟩ p hp => ?_
  obtain ⟨ep, sp⟩ := c.rs.push (o := .dT []) (ob := .dcT [] []) hp fun ex => ⟨[], upd_same, rfl, rfl⟩
  exact h _ _ _ ep sp ⟨p, by rw [← c.rs.len, List.getElem?_append_right (Nat.le_refl _)]; simp, rfl⟩
/-- (i, j), to be a key -/
def eKey (r : DA) : DE := fun σ G => bindE (r σ G) fun xs G1 => match intsD xs with
  | some ns => if ns.length ≤ maxLine then .ok (.key ns) G1 else .bad
  | none => .bad
theorem le_key {es : List Expr} {r : DA} {x1 : Nat} {pos : Pos} (h : PAd X W es r) : PEd X W (.Tuple es x1 pos) (eKey r) := by
  refine (pe_tup h).le fun σ H Q ⟨ρ, σd, G, c, q⟩ => ?_
  refine ⟨ρ, σd, G, c, (EP'.bind q).mono fun ρ1 H1 G1 a v e1 s1 d1 _ ⟨ρ2, G2, a2, e2, s2, d2, _, h2⟩ => ?_⟩
  split at h2
  · rename_i ns hn
    rw [intsD_inv hn] at d2
    have ev := ints_of_rds d2
    subst ev
    split at h2
    · rename_i hl
      refine ⟨by rw [List.length_map, ← maxLine_eq]; exact hl, fun p hp => ?_⟩
      obtain ⟨e, s⟩ := s2.lay (.tup (ns.map V.int)) hp
      exact h2 ρ2 _ _ e s ⟨p, rfl, upd_same, s2.fresh hp⟩
    · exact h2.elim
  · exact h2.elim
def getT (ks : List (List Int)) (ds : List D) (k : List Int) (G : GS) : RE D := match lookT k ks ds with | some d => .ok d G | none => .bad
def bIxK : D → D → GS → RE D := fun x y G => match x, y with
  | .ref n, .key k => match G[n]? with
    | some (.dcT ks ds) => getT ks ds k G
    | _ => .bad
  | x, y => bIxA x y G
theorem sv_ixK : Srv2 X (rIxAny X.K) bIxK := by
  intro W ρ G H x y dx dy Q s rx ry q
  unfold bIxK at q
  split at q
  · rename_i n k
    split at q
    · rename_i ks ds g
      obtain ⟨p, hp, rfl⟩ := rx
      obtain ⟨kvs, hH, ek, rv⟩ := s.at_ n p _ hp g
      obtain ⟨b, rfl, hb, _⟩ := ry
      have l := lookT_is (k := k) ek rv
      unfold getT at q
      split at q
      · rename_i d hd
        rw [hd] at l
        obtain ⟨v, hv, rd⟩ := l
        exact .inr ⟨p, v, rfl, by rw [← hv]; exact DGet.t hH (by rw [inlT_kV]; exact hb), now q s rd⟩
      · exact q.elim
    · exact q.elim
  · exact sv_ixA W ρ G H x y _ _ Q s rx ry q
/-- d.get(k, x) -/
def dctOf (G : GS) : D → Option (List (List Int) × List D)
  | .ref n => match G[n]? with
    | some (.dcT ks ds) => some (ks, ds)
    | _ => none
  | _ => none
theorem dctOf_at {ρ : List Addr} {G : GS} {H : Hp} {d : D} {v : V} {ks : List (List Int)} {ds : List D} (s : RS X.K X.mg ρ G H) (h : dctOf G d = some (ks, ds)) (r : RD X.K ρ H d v) : ∃ (a : Addr) (kvs : List (List Key × V)), v = .ref a ∧ H a = some (.dT kvs) ∧ kvs.map (·.1) = ks.map inlT ∧ RDs X.K ρ H ds (kvs.map (·.2)) := by
  cases d with
  | ref n =>
    simp only [dctOf] at h
    split at h
    · rename_i ks' ds' g
      simp only [Option.some.injEq, Prod.mk.injEq] at h
      obtain ⟨rfl, rfl⟩ := h
      obtain ⟨p, hp, rfl⟩ := r
      obtain ⟨kvs, hH, ek, rv⟩ := s.at_ n p _ hp g
      exact ⟨p, kvs, rfl, hH, ek, rv⟩
    · cases h
  | _ => simp [dctOf] at h
def getT2 (x y z : D) (G : GS) : RE D := match dctOf G x, y with
  | some (ks, ds), .key k => .ok ((lookT k ks ds).getD z) G
  | _, _ => .bad
def eGetT2 (o e f : DE) : DE := fun σ G => bindE (o σ G) fun x G1 => if (dctOf G1 x).isSome = true then bindE (e σ G1) fun y G2 => bindE (f σ G2) fun z G3 => getT2 x y z G3 else .bad
theorem le_getT2 {o e f : Expr} {od ed fd : DE} {apos cpos : Pos} (hu : X.A.units + 1 < cLine) (ho : PEd X W o od) (he : PEd X W e ed) (hf : PEd X W f fd) (m : M2 X o "get" apos e f cpos) : PEd X W (.Call (.Attribute o "get" apos) [e, f] [] cpos) (eGetT2 od ed fd) := by
  refine (pe_dget2 hu ho he hf m).le fun σ H Q ⟨ρ, σd, G, c, h⟩ => ⟨ρ, σd, G, c, (EP'.bind h).mono fun _ H1 _ _ v1 _ _ _ _ ⟨ρ1, G1, a, e1, s1, d1, _, h1⟩ => ?_⟩
  by_cases hd : (dctOf G1 a).isSome = true
  · rw [if_pos hd] at h1
    rw [Option.isSome_iff_exists] at hd
    obtain ⟨⟨ks, ds⟩, hd⟩ := hd
    obtain ⟨p, kvs, rfl, hH, ek, rv⟩ := dctOf_at s1 hd d1
    refine ⟨p, rfl, .inr ⟨kvs, .inl hH⟩, ρ1, σd, G1, c.ext e1 s1, (EP'.bind h1).mono fun _ H2 _ _ v2 _ _ _ _ ⟨ρ2, G2, a2, e2, s2, d2, _, h2⟩ => ?_⟩
    refine ⟨ρ2, σd, G2, (c.ext e1 s1).ext e2 s2, (EP'.bind h2).mono fun _ H3 _ _ v3 _ _ _ _ ⟨ρ3, G3, a3, e3, s3, d3, _, h3⟩ => ?_⟩
    have d1 := (d1.ext e2).ext e3
    have d2 := d2.ext e3
    unfold getT2 at h3
    cases q1 : dctOf G3 a with
    | none => rw [q1] at h3; exact h3.elim
    | some pr =>
      obtain ⟨ks3, ds3⟩ := pr
      rw [q1] at h3
      cases a2 with
      | key k =>
        simp only at h3
        obtain ⟨p', kvs3, ep, hH3, ek3, rv3⟩ := dctOf_at s3 q1 d1
        cases ep
        obtain ⟨b, rfl, hb, _⟩ := d2
        have l := lookT_is (k := k) ek3 rv3
        refine ⟨valV kvs3 (inlT k), DGet.t hH3 (by rw [inlT_kV]; exact hb), ?_⟩
        cases z : lookT k ks3 ds3 with
        | none => rw [z] at l h3; rw [l]; exact now h3 s3 d3
        | some d => rw [z] at l h3; obtain ⟨v, hv, rd⟩ := l; rw [hv]; exact now h3 s3 rd
      | _ => exact h3.elim
  · rw [if_neg hd] at h1; exact h1.elim
/-- d[k] = v -/
def setT (o i v : D) (σ : PEnv) (G : GS) : RSt := match o, i with
  | .ref n, .key k => match G[n]? with
    | some (.dcT ks ds) => if ks.length < maxLine then .nx σ (G.set n (.dcT (putTs k v ks ds).1 (putTs k v ks ds).2)) else .bad
    | _ => .bad
  | _, _ => .bad
def sSetT (o i v : DE) : DS := fun σ G => bindS (v σ G) σ fun dv G1 => bindS (o σ G1) σ fun d_o G2 => bindS (i σ G2) σ fun di G3 => setT d_o di dv σ G3
theorem le_setT {o i e : Expr} {d_o di dv : DE} {pos pos' : Pos} (hu : X.A.units + 1 < cLine) (he : PEd X W e dv) (ho : PEd X W o d_o) (hi : PEd X W i di)
    (hs : swapsWith e (some (.Subscript o i pos')) pos.line X.env = pure false := by rfl) : PSd X W (.Assign [.Subscript o i pos'] e pos) (sSetT d_o di dv) := by
  refine (ps_dput hu ho hi he hs).le fun Dn σ H ⟨ρ, σd, G, c, h⟩ => ⟨ρ, σd, G, c, (SPst.bind c h).mono fun _ _ _ _ _ _ _ _ _ ⟨ρ1, G1, a1, e1, c1, d1, q1⟩ => ?_⟩
  refine ⟨ρ1, σd, G1, c1, (SPst.bind c1 q1).mono fun _ _ _ _ _ _ _ _ _ ⟨ρ2, G2, a2, e2, c2, d2, q2⟩ => ?_⟩
  refine ⟨ρ2, σd, G2, c2, (SPst.bind c2 q2).mono fun _ H3 _ _ _ _ _ _ _ ⟨ρ3, G3, a3, e3, c3, d3, q3⟩ => ?_⟩
  have d2' := d2.ext e3
  have d1' := (d1.ext e2).ext e3
  cases a2 with
  | ref n =>
    cases a3 with
    | key k =>
      simp only [setT] at q3
      cases g : G3[n]? with
      | none => simp only [g] at q3; exact q3.elim
      | some ob =>
        cases ob with
        | dcT ks ds =>
          simp only [g] at q3
          obtain ⟨p, hp, ev⟩ := d2'
          subst ev
          obtain ⟨kvs, hH, ek, rv⟩ := c3.rs.at_ n p _ hp g
          obtain ⟨b, rfl, hb, _⟩ := d3
          have el : kvs.length = ks.length := by have := congrArg List.length ek; simpa using this
          split at q3
          · rename_i hl
            obtain ⟨e4, s4⟩ := c3.rs.write (o := .dT (putK kvs (inlT k) _)) (ob := .dcT (putTs k a1 ks ds).1 (putTs k a1 ks ds).2) hp fun ex => by
              obtain ⟨p1, p2⟩ := putTs_is (k := k) (d1'.ext ex) ek (rv.ext ex)
              exact ⟨_, upd_same, p1, p2⟩
            exact ⟨p, _, rfl, DPut.t hH (by rw [inlT_kV]; exact hb) (by rw [el, ← maxLine_eq]; exact hl), q3 _ _ _ e4 (c3.ext e4 s4)⟩
          · exact q3.elim
        | _ => simp only [g] at q3; exact q3.elim
    | _ => exact q3.elim
  | _ => exact q3.elim

/-! ## sorted of such a dict -/
def keyI (H : Hp) (b : Addr) : List Int := match H b with
  | some (.tup vs) => vs.filterMap fun v => match v with | .int i => some i | _ => none
  | _ => []
theorem ints_back : ∀ ns : List Int, (ns.map V.int).filterMap (fun v => match v with | .int i => some i | _ => none) = ns
  | [] => rfl
  | n :: ns => by
    rw [List.map_cons, List.filterMap_cons]
    simp only
    rw [ints_back ns]
theorem keyI_at {H : Hp} {b : Addr} {ns : List Int} (h : H b = some (.tup (ns.map V.int))) : keyI H b = ns := by
  unfold keyI
  rw [h]
  exact ints_back ns
theorem paired_at {α β : Type} {F : α → β → Prop} {l₁ : List α} {l₂ : List β} (h : Paired F l₁ l₂) : ∀ {j : Nat} {y : β}, l₂[j]? = some y → ∃ x, l₁[j]? = some x ∧ F x y := by
  induction h with
  | nil => intro j y e; simp at e
  | cons h1 h2 ih =>
    intro j y e
    cases j with
    | zero => simp at e; subst e; exact ⟨_, rfl, h1⟩
    | succ j => simp at e; obtain ⟨x, hx, hf⟩ := ih e; exact ⟨x, by simpa using hx, hf⟩
def adr : Value → Addr
  | .ref a => a
  | _ => 0
theorem vals_adr : ∀ {us : List Value}, (∀ u ∈ us, ∃ a, u = Value.ref a) → Vals ((us.map adr).map V.ref) us
  | [], _ => .nil
  | u :: us, h => by
    obtain ⟨a, e⟩ := h u List.mem_cons_self
    subst e
    exact .cons rfl (vals_adr fun v hv => h v (List.mem_cons_of_mem _ hv))
def rSortDT (d : Nat) (B : Int) : List V → Hp → VK → Prop := fun vs H Q => ∃ (a : Addr) (kvs : List (List Key × V)) (L : List (List Int)), vs = [V.ref a] ∧ H a = some (.dT kvs) ∧ kvs.map (·.1) = L.map inlT ∧ L.length < 1000000 ∧ (∀ ns ∈ L, 1 ≤ ns.length) ∧
  ∀ (bs : List Addr) (p : Addr), (∀ b ∈ bs, ∃ ns ∈ L, H b = some (.tup (ns.map V.int))) → (bs.map (keyI H)).Perm L → (bs.map (keyI H)).Pairwise (fun x y => lexLe x y = true) → H p = none → Q (.ref p) (upd H p (.lst (bs.map V.ref)))
theorem cr_sortDT {d : Nat} {B : Int} (hcalm : X.calm = true) (hd : 1 ≤ d) : CallR X (.builtin "sorted") (rSortDT d B) := by
  intro pins s σ H xs us Q I r q
  obtain ⟨a, kvs, L, rfl, ha, hk, h64, hB, q⟩ := q
  obtain ⟨u, rfl, rx⟩ := r.one
  cases rx
  obtain ⟨z, hs, ks, pr, o, es, ep, ho, hx, hdt, he, hn⟩ := (show ObjOk X.prog X.w H s.heap a (.dT kvs) from I.hok a _ ha)
  have l1 : es.size = ks.length := size_of_entries he
  have l2 : kvs.length = ks.length := Paired.length pr
  have l3 : kvs.length = L.length := by have := congrArg List.length hk; simpa using this
  refine Calls.call_function_entry PyProof.Rows.kind_sorted PyProof.Rows.plain_sorted PyProof.Rows.entry_sorted (PyProof.Rows.args_sorted1 _) ?_
  unfold Builtin.«sorted»
  refine wpAny_bind (m := checkCount "sorted" 1 1 _) (wpAny_pure ?_)
  refine wpAny_bind (PySem.W.kdu_collect (A := X.A.in1) (kdl_raw hs hx hdt) (I.ok.hd hcalm) ho (by omega) fun h' tk acc kp it => ?_)
  have hal : acc.toList.length = ks.length := by rw [Array.length_toList, it.1]; exact l1
  have ea : acc.toList = ks.map fun x => Value.ref x.2.1 := by
    apply List.ext_getElem?
    intro j
    rw [List.getElem?_map]
    cases hj : acc.toList[j]? with
    | none =>
      have h1 := List.getElem?_eq_none_iff.mp hj
      rw [List.getElem?_eq_none (by omega)]
      all_goals rfl
    | some v =>
      obtain ⟨en, hen, hv⟩ := it.2 j v (by rw [← Array.getElem?_toList]; exact hj)
      have qe := entry_at he j
      rw [hen] at qe
      cases hb : ks[j]? with
      | none =>
        rw [hb] at qe
        exact nomatch (show some en = none from qe)
      | some b =>
        rw [hb] at qe
        have e2 : en = entryOfKey (tupleKind (mixKind X.prog X.w)) b := Option.some.inj qe
        rw [hv, e2]
        all_goals rfl
  have hkey : ∀ (j : Nat) (x : List Key × Addr × Value), ks[j]? = some x → ∃ ns, L[j]? = some ns ∧ H x.2.1 = some (.tup (ns.map V.int)) := by
    intro j x hj
    obtain ⟨p, hp, h1, h2, _⟩ := paired_at pr hj
    have h3 : (L.map inlT)[j]? = some p.1 := by rw [← hk, List.getElem?_map, hp]; rfl
    rw [List.getElem?_map, Option.map_eq_some_iff] at h3
    obtain ⟨ns, h4, h5⟩ := h3
    exact ⟨ns, h4, by rw [h2, ← h5, inlT_kV]⟩
  have I1 : Inv X pins σ H { s with heap := h', toks := tk } := I.kept kp
  refine wpAny_bind (wpAny_newList ?_ (by rw [hal, sizeLine_eq]; omega))
  have hoL : (h'.push (seqObj "list" acc.toList.toArray 0)).get? h'.objs.size = some (seqObj "list" acc.toList.toArray 0) := Heap.get?_push_size _ rfl
  show wpAny _ _ _ _ _ { s with heap := h'.push (seqObj "list" acc.toList.toArray 0), toks := tk }
  have raw : ∀ b ns, H b = some (.tup (ns.map V.int)) → TS.TupInts (h'.push (seqObj "list" acc.toList.toArray 0)) (.ref b) ns := fun b ns e => by
    have t := tupI_raw (t := b) (ns := ns) I1 (.inl (.inl e))
    exact t.keeps fun c o ho _ => Heap.get?_push_of_some _ ho
  have mem : ∀ v ∈ acc.toList, ∃ b, v = Value.ref b ∧ ∃ ns ∈ L, H b = some (.tup (ns.map V.int)) := fun v hv => by
    rw [ea] at hv
    obtain ⟨x, hx, rfl⟩ := List.mem_map.mp hv
    obtain ⟨j, hj⟩ := List.getElem?_of_mem hx
    obtain ⟨ns, h1, h2⟩ := hkey j x hj
    exact ⟨x.2.1, rfl, ns, List.mem_of_getElem? h1, h2⟩
  have hT : ∀ v ∈ acc.toList, ∃ ns, TS.TupInts (h'.push (seqObj "list" acc.toList.toArray 0)) v ns ∧ 1 ≤ ns.length := fun v hv => by
    obtain ⟨b, rfl, ns, hn, hb⟩ := mem v hv
    exact ⟨ns, raw b ns hb, hB ns hn⟩
  refine wpAny_bind (wpAny_holding (wpAny_call_entry PyProof.Rows.slot_list_sort ⟨_, hoL, rfl⟩ PyProof.Rows.entry_list_sort
    (sort_tupsL (s := { s with heap := h'.push (seqObj "list" acc.toList.toArray 0), toks := tk }) hoL (by rw [hal, sizeLine_eq]; omega) hT fun out a1 a2 => ⟨_, rfl, ?_⟩) (PyProof.Rows.args_list_sort _)))
  obtain ⟨e', he'⟩ := PyProof.Rows.sortedHeap_at (vs := acc.toList) (out := out) hoL
  have mem2 : ∀ v ∈ out.toList, ∃ b, v = Value.ref b ∧ ∃ ns ∈ L, H b = some (.tup (ns.map V.int)) := fun v hv => mem v (a1.mem_iff.mp hv)
  have hbs : ∀ b ∈ out.toList.map adr, ∃ ns ∈ L, H b = some (.tup (ns.map V.int)) := fun b hb => by
    obtain ⟨v, hv, rfl⟩ := List.mem_map.mp hb
    obtain ⟨c, rfl, h⟩ := mem2 v hv
    exact h
  have hperm : ((out.toList.map adr).map (keyI H)).Perm L := by
    have h1 := (a1.map adr).map (keyI H)
    have h2 : (acc.toList.map adr).map (keyI H) = L := by
      rw [ea, List.map_map, List.map_map]
      apply List.ext_getElem?
      intro j
      rw [List.getElem?_map]
      cases hj : ks[j]? with
      | none =>
        have := List.getElem?_eq_none_iff.mp hj
        rw [List.getElem?_eq_none (by omega)]
        rfl
      | some x =>
        obtain ⟨ns, h3, h4⟩ := hkey j x hj
        rw [h3]
        exact congrArg some (keyI_at h4)
    rw [h2] at h1
    exact h1
  have hpw : ((out.toList.map adr).map (keyI H)).Pairwise (fun x y => lexLe x y = true) := by
    rw [List.pairwise_map, List.pairwise_map]
    refine List.Pairwise.imp_of_mem (fun {u v} hu hv huv => ?_) a2
    obtain ⟨b, rfl, ns, _, hb⟩ := mem2 u hu
    obtain ⟨c, rfl, ms, _, hc⟩ := mem2 v hv
    have i1 := (raw b ns hb).ints
    have i2 := (raw c ms hc).ints
    show lexLe (keyI H b) (keyI H c) = true
    rw [keyI_at hb, keyI_at hc]
    simp only [i1, i2] at huv
    exact huv
  have hlen : ((out.toList.map adr).map V.ref).length ≤ sizeLine := by
    rw [List.length_map, List.length_map, a1.length_eq, hal, sizeLine_eq]
    omega
  refine wpAny_pure ⟨_, rfl, .ref h'.objs.size, upd H h'.objs.size (.lst ((out.toList.map adr).map V.ref)), I1.laid (t' := tk) (fun b u e => ?_) (Nat.le_refl _)
    (show ObjOk X.prog X.w _ _ _ (.lst ((out.toList.map adr).map V.ref)) from ⟨hlen, out.toList, e', vals_adr (fun u hu => let ⟨b, e, _⟩ := mem2 u hu; ⟨b, e⟩), by rw [Array.toArray_toList]; exact he'⟩), rfl, q _ _ hbs hperm hpw (I1.hok.fresh (Nat.le_refl _))⟩
  have hb : b < h'.objs.size := Heap.lt_size e
  rw [PyProof.Rows.sortedHeap_old (Nat.ne_of_lt hb) (by rw [size_push']; exact Nat.lt_succ_of_lt hb)]
  exact Heap.get?_push_of_some _ e
def fSrtDT (d : Nat) (B : Int) : List D → GS → RE D := fun xs G => match xs with
  | [x] => match dctOf G x with
    | some (ks, _) => if okT d B ks = true then .ok (.lst ((srtT ks).map D.key)) G else .bad
    | none => .bad
  | _ => .bad
theorem not_in {ρ : List Addr} {G : GS} {H : Hp} {b : Addr} {vs : List V} (s : RS X.K X.mg ρ G H) (h : H b = some (.tup vs)) : b ∉ ρ := fun hm => by
  obtain ⟨i, hi, e⟩ := List.mem_iff_getElem.mp hm
  have hg : i < G.length := by rw [← s.len]; exact hi
  have r := s.at_ i b G[i] (by rw [← e]; exact List.getElem?_eq_getElem hi) (List.getElem?_eq_getElem hg)
  cases ho : G[i] with
  | lst ds => rw [ho] at r; obtain ⟨vs, q, _⟩ := r; rw [h] at q; cases q
  | ins c fs => rw [ho] at r; obtain ⟨C, dx, fvs, _, q, _⟩ := r; rw [h] at q; cases q
  | dic ks ds => rw [ho] at r; obtain ⟨kvs, q, _⟩ := r; rw [h] at q; cases q
  | dcT ks ds => rw [ho] at r; obtain ⟨kvs, q, _⟩ := r; rw [h] at q; cases q
theorem keys_rd {ρ : List Addr} {G : GS} {H : Hp} (s : RS X.K X.mg ρ G H) : ∀ bs : List Addr, (∀ b ∈ bs, ∃ ns : List Int, H b = some (.tup (ns.map V.int))) → RDs X.K ρ H ((bs.map (keyI H)).map D.key) (bs.map V.ref)
  | [], _ => rfl
  | b :: bs, h => by
    obtain ⟨ns, hb⟩ := h b List.mem_cons_self
    rw [List.map_cons, List.map_cons, List.map_cons, keyI_at hb]
    exact RDs.cons ⟨b, rfl, hb, not_in s hb⟩ (keys_rd s bs fun c hc => h c (List.mem_cons_of_mem _ hc))
theorem sv_srtDT {d : Nat} {B : Int} (hd : 1 ≤ d) : SrvC X (rSortDT d B) (fSrtDT d B) := by
  intro W ρ G H xs dxs Q s r q
  unfold fSrtDT at q
  split at q
  · rename_i x
    obtain ⟨v, rfl, rv⟩ := rds1 r
    cases hq : dctOf G x with
    | none => rw [hq] at q; exact q.elim
    | some pr =>
      obtain ⟨ks, ds⟩ := pr
      rw [hq] at q
      simp only at q
      split at q
      · rename_i ho
        obtain ⟨a, kvs, rfl, hH, ek, _⟩ := dctOf_at s hq rv
        unfold okT at ho
        simp only [Bool.and_eq_true, decide_eq_true_eq, List.all_eq_true] at ho
        have hBd : ∀ ns ∈ ks, ns.length = d := fun ns hn => ho.2 ns hn
        refine ⟨a, kvs, ks, rfl, hH, ek, ho.1, fun ns hn => by rw [hBd ns hn]; exact hd, fun bs p hbs hM hpw hn => ?_⟩
        have : bs.map (keyI H) = srtT ks := srtT_one hM hpw
        have hr := keys_rd s bs fun b hb => let ⟨ns, _, h⟩ := hbs b hb; ⟨ns, h⟩
        rw [this] at hr
        exact lay_lst q s hr hn
      · exact q.elim
  · exact q.elim
end
end Dl
namespace Dl
open PySem L2
section
variable {σ : PEnv} {G : GS} {E : EK} {Q : D → GS → Prop} {P : Po}
theorem wE_newT : wE (eNewT σ G) E Q = Q (.ref G.length) (G ++ [.dcT [] []]) := id rfl
def keyR (xs : List D) (G : GS) : RE D := match intsD xs with
  | some ns => if ns.length ≤ maxLine then .ok (.key ns) G else .bad
  | none => .bad
theorem wE_key {a : DA} : wE (eKey a σ G) E Q = wE (a σ G) E fun xs G1 => wE (keyR xs G1) E Q := by
  unfold eKey keyR
  rw [wE_bind]
  all_goals rfl
theorem keyR_2 {i j : Int} : keyR [.int i, .int j] G = .ok (.key [i, j]) G := by
  show (if ([i, j] : List Int).length ≤ maxLine then RE.ok (D.key [i, j]) G else .bad) = _
  exact if_pos (le_line (n := 2) (by decide))
theorem wE_getT2 {o e f : DE} : wE (eGetT2 o e f σ G) E Q = wE (o σ G) E fun x G1 => (dctOf G1 x).isSome = true ∧ wE (e σ G1) E fun y G2 => wE (f σ G2) E fun z G3 => wE (getT2 x y z G3) E Q := by unfold eGetT2; (repeat (first | rfl | rw [wS_bind] | rw [wE_bind] | rw [wE_if] | rw [wE_ite] | rw [wE_ok] | refine wE_ext fun _ _ => ?_ | refine congrArg (And _) ?_))
theorem wS_setT {o i v : DE} : wS (sSetT o i v σ G) P = wE (v σ G) (fun c fs G1 => P.ex c fs σ G1) fun dv G1 => wE (o σ G1) (fun c fs G1 => P.ex c fs σ G1) fun d_o G2 => wE (i σ G2) (fun c fs G1 => P.ex c fs σ G1) fun di G3 => wS (setT d_o di dv σ G3) P := by
  unfold sSetT; (repeat (first | rfl | rw [wS_bind] | rw [wE_bind] | rw [wE_if] | rw [wE_ite] | rw [wE_ok] | refine wE_ext fun _ _ => ?_))
def setTR (o : Option Ob) (n : Nat) (k : List Int) (v : D) (σ : PEnv) (G : GS) : RSt := match o with
  | some (.dcT ks ds) => if ks.length < maxLine then .nx σ (G.set n (.dcT (putTs k v ks ds).1 (putTs k v ks ds).2)) else .bad
  | _ => .bad
theorem setT_R {n : Nat} {k : List Int} {v : D} : setT (.ref n) (.key k) v σ G = setTR G[n]? n k v σ G := by
  unfold setT setTR
  rfl
theorem setTR_dct {ks : List (List Int)} {ds : List D} {n : Nat} {k : List Int} {v : D} : wS (setTR (some (.dcT ks ds)) n k v σ G) P = (ks.length < maxLine ∧ P.nx σ (G.set n (.dcT (putTs k v ks ds).1 (putTs k v ks ds).2))) := by
  show wS (if ks.length < maxLine then _ else _) P = _
  by_cases h : ks.length < maxLine
  · rw [if_pos h]; simp [h, wS]
  · rw [if_neg h]; simp [h, wS]
def ixTR (o : Option Ob) (k : List Int) (G : GS) : RE D := match o with
  | some (.dcT ks ds) => getT ks ds k G
  | _ => .bad
theorem bIxK_R {n : Nat} {k : List Int} : bIxK (.ref n) (.key k) G = ixTR G[n]? k G := by
  unfold bIxK ixTR
  rfl
theorem ixTR_dct {ks : List (List Int)} {ds : List D} {k : List Int} : ixTR (some (.dcT ks ds)) k G = getT ks ds k G := id rfl
theorem bIxK_int {x : D} {i : Int} : bIxK x (.int i) G = bIxA x (.int i) G := by
  cases x <;> rfl
theorem bxA_key {ns : List Int} {k : Int} : bIxA (.key ns) (.int k) G = ixL (ns.map D.int) k G := id rfl
theorem getT_some {ks : List (List Int)} {ds : List D} {k : List Int} {d : D} (h : lookT k ks ds = some d) : getT ks ds k G = .ok d G := by
  unfold getT
  rw [h]
theorem dctOf_R {n : Nat} {ks : List (List Int)} {ds : List D} (h : G[n]? = some (.dcT ks ds)) : dctOf G (.ref n) = some (ks, ds) := by
  simp only [dctOf, h]
theorem getT2_R {n : Nat} {ks : List (List Int)} {ds : List D} {k : List Int} {z : D} (h : G[n]? = some (.dcT ks ds)) : getT2 (.ref n) (.key k) z G = .ok ((lookT k ks ds).getD z) G := by
  unfold getT2
  rw [dctOf_R h]
theorem fSrtDT_R {d : Nat} {B : Int} {n : Nat} {ks : List (List Int)} {ds : List D} (h : G[n]? = some (.dcT ks ds)) (ho : okT d B ks = true) : fSrtDT d B [.ref n] G = .ok (.lst ((srtT ks).map D.key)) G := by
  simp only [fSrtDT, dctOf_R h, ho, if_true]
end
/-! ## not e, e a list -/
def eNotA (a : DE) : DE := fun σ G => bindE (bindE (a σ G) truthA) fun x G1 => .ok (.bl (!x)) G1
theorem wE_notA {σ : PEnv} {G : GS} {E : EK} {Q : D → GS → Prop} {a : DE} : wE (eNotA a σ G) E Q = wE (a σ G) E fun x G1 => wE (truthA x G1) E fun k G2 => Q (.bl (!k)) G2 := by
  unfold eNotA; (repeat (first | rfl | rw [wS_bind] | rw [wE_bind] | rw [wE_if] | rw [wE_ite] | rw [wE_ok] | refine wE_ext fun _ _ => ?_))
section
variable {X : Cx} {W : WX}
theorem le_notA {a : Expr} {da : DE} {pos : Pos} (ha : PEd X W a da) : PEd X W (.UnaryOp .Not a pos) (eNotA da) := by
  refine (pe_notT ha).le fun σ H Q ⟨ρ, σd, G, c, q⟩ => ?_
  refine ⟨ρ, σd, G, c, (EP'.bind (show EP' X.K X.mg (RD X.K) (WA W σ) ρ H (bindE (da σd G) fun x G1 => bindE (truthA x G1) fun k G2 => .ok (.bl (!k)) G2) Q from by
    unfold eNotA at q
    cases z : da σd G with
    | bad => rw [z] at q; exact q
    | exc cc fs G1 => rw [z] at q; exact q
    | ok x G1 => rw [z] at q; exact q)).mono fun ρ1 H1 G1 a v e1 s1 d1 _ ⟨ρ2, G2, a2, e2, s2, d2, _, h2⟩ => ?_⟩
  unfold truthA at h2
  cases z : truV G2 a2 with
  | none => rw [z] at h2; exact h2.elim
  | some b => rw [z] at h2; exact ⟨b, truV_ok s2 z d2, h2 ρ2 H1 _ (.refl _ _) s2 rfl⟩
end
/-! ## the dict as a function -/
theorem lookT_put {k l : List Int} {d : D} : ∀ {ks : List (List Int)} {ds : List D}, ks.length = ds.length → lookT l (putTs k d ks ds).1 (putTs k d ks ds).2 = if l = k then some d else lookT l ks ds := by
  have hset : ∀ {ks : List (List Int)} {ds : List D}, ks.length = ds.length → k ∈ ks → lookT l ks (setTs k d ks ds) = if l = k then some d else lookT l ks ds := by
    intro ks
    induction ks with
    | nil => intro ds _ h; simp at h
    | cons a ks ih =>
      intro ds hl h
      cases ds with
      | nil => simp at hl
      | cons x ds =>
        simp only [setTs, lookT]
        by_cases h1 : a = l
        · rw [if_pos h1]
          by_cases h2 : l = k
          · rw [if_pos h2, if_pos (h1.trans h2)]
          · rw [if_neg h2, if_neg (fun z => h2 (h1.symm.trans z)), if_pos h1]
        · rw [if_neg h1]
          by_cases hk : k ∈ ks
          · rw [ih (by simpa using hl) hk]
            by_cases h2 : l = k
            · rw [if_pos h2, if_pos h2]
            · rw [if_neg h2, if_neg h2, if_neg h1]
          · have hak : a = k := by
              rcases List.mem_cons.mp h with h | h
              · exact h.symm
              · exact absurd h hk
            have h2 : ¬ l = k := fun z => h1 (hak.trans z.symm)
            rw [if_neg h2, if_neg h1]
            have hno : ∀ (ks : List (List Int)) (ds : List D), k ∉ ks → setTs k d ks ds = ds := by
              intro ks
              induction ks with
              | nil => intro ds _; cases ds <;> rfl
              | cons a ks ih =>
                intro ds hn
                cases ds with
                | nil => rfl
                | cons x ds =>
                  simp only [List.mem_cons, not_or] at hn
                  simp only [setTs]
                  rw [if_neg (fun z => hn.1 z.symm), ih ds hn.2]
            rw [hno ks ds hk]
  intro ks ds hl
  unfold putTs
  by_cases h : (ks.any fun l => decide (l = k)) = true
  · rw [if_pos h]
    rw [List.any_eq_true] at h
    obtain ⟨a, ha, e⟩ := h
    have e := of_decide_eq_true e
    subst e
    exact hset hl ha
  · rw [if_neg h]
    have hn : k ∉ ks := fun hk => h (List.any_eq_true.mpr ⟨k, hk, decide_eq_true rfl⟩)
    simp only
    have happ : ∀ (ks : List (List Int)) (ds : List D), ks.length = ds.length → lookT l (ks ++ [k]) (ds ++ [d]) = (lookT l ks ds).or (if l = k then some d else none) := by
      intro ks
      induction ks with
      | nil =>
        intro ds hl
        cases ds with
        | nil =>
          simp only [List.nil_append, lookT]
          by_cases h : l = k
          · rw [if_pos h.symm, if_pos h]; rfl
          · rw [if_neg (fun z => h z.symm), if_neg h]; rfl
        | cons _ _ => simp at hl
      | cons a ks ih =>
        intro ds hl
        cases ds with
        | nil => simp at hl
        | cons x ds =>
          simp only [List.cons_append, lookT]
          by_cases h1 : a = l
          · rw [if_pos h1, if_pos h1]; rfl
          · rw [if_neg h1, if_neg h1]
            exact ih ds (by simpa using hl)
    rw [happ ks ds hl]
    by_cases h2 : l = k
    · rw [if_pos h2, if_pos h2]
      have hnone : ∀ (ks : List (List Int)) (ds : List D), l ∉ ks → lookT l ks ds = none := by
        intro ks
        induction ks with
        | nil => intro ds _; cases ds <;> rfl
        | cons a ks ih =>
          intro ds hn
          cases ds with
          | nil => rfl
          | cons x ds =>
            simp only [List.mem_cons, not_or] at hn
            simp only [lookT]
            rw [if_neg (fun z => hn.1 z.symm)]
            exact ih ds hn.2
      rw [hnone ks ds (by rw [h2]; exact hn)]
      rfl
    · rw [if_neg h2, if_neg h2]
      cases lookT l ks ds <;> rfl
theorem putT_len {k : List Int} {d : D} {ks : List (List Int)} {ds : List D} (h : ks.length = ds.length) : (putTs k d ks ds).1.length = (putTs k d ks ds).2.length ∧ (putTs k d ks ds).1.length ≤ ks.length + 1 := by
  have hs : ∀ (ks : List (List Int)) (ds : List D), (setTs k d ks ds).length = ds.length := by
    intro ks
    induction ks with
    | nil => intro ds; cases ds <;> rfl
    | cons a ks ih => intro ds; cases ds with
      | nil => rfl
      | cons x ds => simp [setTs, ih]
  unfold putTs
  split
  · simp only [hs]; omega
  · simp; omega
theorem putT_mem {k l : List Int} {d : D} {ks : List (List Int)} {ds : List D} : l ∈ (putTs k d ks ds).1 ↔ l ∈ ks ∨ l = k := by
  unfold putTs
  split
  · rename_i h
    rw [List.any_eq_true] at h
    obtain ⟨a, ha, e⟩ := h
    have e := of_decide_eq_true e
    subst e
    simp only
    constructor
    · exact .inl
    · rintro (h | rfl)
      · exact h
      · exact ha
  · simp
theorem putT_nd {k : List Int} {d : D} {ks : List (List Int)} {ds : List D} (h : ks.Nodup) : (putTs k d ks ds).1.Nodup := by
  unfold putTs
  split
  · exact h
  · rename_i hn
    simp only
    rw [List.nodup_append]
    refine ⟨h, by simp, fun a ha b hb => ?_⟩
    rw [List.mem_singleton.mp hb]
    rintro rfl
    exact hn (List.any_eq_true.mpr ⟨a, ha, decide_eq_true rfl⟩)
end Dl
namespace Dl
open PySem L2
/-! ## match over tuples whose first item is a text -/
abbrev TM := V → TS
structure PM (X : Cx) (cs : List MatchCase) (t : TM) : Prop where
  run : ∀ (pins : List (Addr × Obj)) (s : Shared) (σ : L2.St) (H : Hp) (D : Ends) (v : V) (u : Value) (first : Bool), Inv X pins σ H s → RelV v u → t v D σ H → wpAny (model X.prog X.w) X.A (matchCases cs X.env u first) (SP X pins D) X.xe s
def setsM {α : Type} : List Nat → List α → List (Option α) → List (Option α)
  | i :: is, v :: vs, σ => setsM is vs (σ.set i (some v))
  | _, _, σ => σ
section
open PyProof.Rows
variable {X : Cx}
structure PCs (X : Cx) (ps : List Pattern) (xs : List Str) (is : List Nat) : Prop where
  lenx : xs.length = is.length
  lenp : ps.length = is.length
  each : ∀ (us : List Value) (s : Shared) (Q : Option (List (Str × Value)) → Shared → Prop), us.length = ps.length → Q (some (xs.zip us)) s → wpAny (model X.prog X.w) X.A (matchEach ps X.env us) Q X.xe s
  bind : ∀ (pins : List (Addr × Obj)) (s : Shared) (σ : L2.St) (H : Hp) (vs : List V) (us : List Value) (Q : Unit → Shared → Prop), Inv X pins σ H s → Vals vs us → us.length = xs.length → (∀ s', Inv X pins (setsM is vs σ) H s' → Q () s') →
    wpAny (model X.prog X.w) X.A (assignInOrder ((xs.zip us).map fun (n, _) => bindName X.env n) ((xs.zip us).map (·.2))) Q X.xe s
theorem pcs_nil : PCs X [] [] [] := by
  refine ⟨rfl, rfl, fun us s Q hl q => ?_, fun pins s σ H vs us Q I r hl q => ?_⟩
  · cases us with
    | nil => exact wpAny_matchEach_nil q
    | cons u us => simp at hl
  · cases us with
    | nil => cases r; exact wpAny_assignInOrder_none (q s I)
    | cons u us => simp at hl
theorem pcs_cons {ps : List Pattern} {xs : List Str} {is : List Nat} {i : Nat} {x : Str} {pos : Pos} (hN : X.N.Nodup) (hi : X.N[i]? = some x) (hx : Loc X.env.scope x) (hf : X.fn x = true ∨ X.env.scope.names.lookup x = some .local) (h : PCs X ps xs is) :
    PCs X (.MatchAs none (some x) pos :: ps) (x :: xs) (i :: is) := by
  refine ⟨by simp [h.lenx], by simp [h.lenp], fun us s Q hl q => ?_, fun pins s σ H vs us Q I r hl q => ?_⟩
  · cases us with
    | nil => simp at hl
    | cons u us =>
      refine wpAny_matchEach_cons (wpAny_matchPattern_Capture ?_)
      exact h.each us s _ (by simpa using hl) q
  · cases us with
    | nil => simp at hl
    | cons u us =>
      cases r with
      | cons r1 r2 =>
        refine wpAny_assignInOrder_more (wpAny_bindName (store_ok I hN hi hx r1 (fun s' I' => ?_) hf))
        exact h.bind pins s' _ H _ us Q I' r2 (by simpa using hl) fun s2 I2 => q s2 I2
def tmNil : TM := fun _ D σ H => D.nx σ H
theorem pm_nil : PM X [] tmNil := ⟨fun pins s σ H D v u first I r h => wpAny_matchCases_nil ⟨σ, H, I, h⟩⟩
def tmCase (K : PySem.W.Frag) (w : Str) (is : List Nat) (t : TS) (r : TM) : TM := fun v D σ H => ∃ a s0 rest, v = .ref a ∧ SqT K H a (.str s0 :: rest) ∧
  (if rest.length = is.length then (if s0 = w then t D (setsM is rest σ) H else r v D σ H) else r v D σ H)
theorem pm_case {ps : List Pattern} {xs : List Str} {is : List Nat} {w : Str} {j p1 p2 pos} {body : List Stmt} {rest : List MatchCase} {t : TS} {r : TM} (hc : X.calm = true) (h : PCs X ps xs is) (hb : PSs X body t) (hr : PM X rest r)
    (hstar : (Pattern.MatchValue (.Constant (.str w) j p1) p2 :: ps).findIdx? (·.isStar) = none)
    (hwild : ((Pattern.MatchValue (.Constant (.str w) j p1) p2 :: ps).all fun p => p.isWildcard || (p.isStar && p.names.isEmpty)) = false) :
    PM X (⟨.MatchSequence (.MatchValue (.Constant (.str w) j p1) p2 :: ps) pos, none, body⟩ :: rest) (tmCase X.K w is t r) := by
  refine ⟨fun pins s σ H D v u first I rv hw => ?_⟩
  obtain ⟨a, s0, tl, rfl, sq, hw⟩ := hw
  cases rv
  obtain ⟨its, vals, ht, hz⟩ := I.tuple sq
  rw [sizeLine_eq] at hz
  have hl := vals.length
  cases vals with
  | @cons _ u0 _ us r0 rs =>
  obtain ⟨tk, rfl⟩ := r0
  have hl2 : tl.length = us.length := rs.length
  have hsz : (Value.str s0 tk :: us).toArray.size = tl.length + 1 := by simp [hl2]
  have hps : (Pattern.MatchValue (.Constant (.str w) j p1) p2 :: ps).length = is.length + 1 := by simp [h.lenp]
  have hz' : tl.length + 1 ≤ 16777216 := hz
  refine wpAny_matchCases_cons ?_
  by_cases hn : tl.length = is.length
  · rw [if_pos hn] at hw
    have hn2 : (Value.str s0 tk :: us).toArray.size = (Pattern.MatchValue (.Constant (.str w) j p1) p2 :: ps).length := by rw [hsz, hps, hn]
    refine matchSeq_tuple_hit ht (by rw [hsz]; omega) hn2 ?_ hstar hwild
    rw [← hn2]
    refine unpackItems_tuple (I.ok.hd hc) ht fun h' hx => ?_
    have I1 : Inv X pins σ H { s with heap := h', toks := s.toks + 1 + 1 } := I.kept (t' := s.toks + 1 + 1) fun b o e => hx b o (Nat.ne_of_lt (Heap.lt_size e)) e
    refine wpAny_matchEach_cons (wpAny_matchPattern_Value ?_)
    refine thn ((pe_str (X := X)).run pins _ σ H (fun v H' => v = .str w ∧ H' = H) I1 ⟨rfl, rfl⟩) fun x s1 ⟨v, H', I2, rv2, ev, eH⟩ => ?_
    subst ev eH
    refine thn (op_eq pins s1 σ H' (.str s0) (.str w) _ x (fun v H2 => v = .bl (decide (V.str s0 = V.str w)) ∧ H2 = H') I2 ⟨tk, rfl⟩ rv2 ⟨rfl, rfl, rfl⟩) fun c s2 ⟨v, H2, I3, rv3, ev, eH⟩ => ?_
    subst ev eH
    cases rv3
    refine wpAny_truthy_bool ?_
    by_cases e : s0 = w
    · subst e
      rw [if_pos rfl] at hw
      simp only [decide_true, if_true]
      refine h.each us s2 _ (by rw [h.lenp, ← hn, hl2]) ?_
      show wpAny _ _ (assignInOrder ((xs.zip us).map fun (n, _) => bindName X.env n) ((xs.zip us).map (·.2))) _ _ s2
      refine h.bind pins s2 σ H2 tl us _ I3 rs (by rw [h.lenx, ← hn, hl2]) fun s3 I4 => ?_
      exact hb.run pins s3 _ H2 D I4 hw
    · rw [if_neg e] at hw
      have e2 : decide (V.str s0 = V.str w) = false := decide_eq_false fun z => e (by injection z)
      rw [e2]
      simp only [Bool.false_eq_true, if_false]
      exact hr.run pins s2 σ H2 D (.ref a) (.ref a) false I3 rfl hw
  · rw [if_neg hn] at hw
    refine matchSeq_tuple_miss ht (by rw [hsz]; omega) (by rw [hsz, hps]; omega) ?_ hstar hwild
    exact hr.run pins _ σ H D (.ref a) (.ref a) false (I.tok _) rfl hw
def tMatch (te : TE) (t : TM) : TS := fun D σ H => te σ H fun v H1 => t v D σ H1
theorem ps_match {e : Expr} {cs : List MatchCase} {pos : Pos} {te : TE} {t : TM} (he : PE X e te) (hc : PM X cs t) : PS X (.Match e cs pos) (tMatch te t) := by
  refine ⟨fun pins s σ H D I h => ?_⟩
  refine wpAny_Match (thn (he.run pins s σ H _ I h) fun u s1 ⟨v, H1, I1, r1, q1⟩ => ?_)
  exact hc.run pins s1 σ H1 D v u true I1 r1 q1
end
abbrev DM := D → DS
def tM (K : PySem.W.Frag) (mg : MG) (W : WX) (m : DM) : TM := fun v D σ H => ∃ ρ σd G d, Ct K mg ρ σd G σ H ∧ RD K ρ H d v ∧ SPst K mg W ρ H (m d σd G) D
abbrev PMd (X : Cx) (W : WX) (cs : List MatchCase) (m : DM) : Prop := PM X cs (tM X.K X.mg W m)
def mNil : DM := fun _ => sNil
def mCase (w : List Nat) (is : List Nat) (b : DS) (r : DM) : DM := fun d σ G => match d with
  | .tup (.str s :: rest) => if rest.length = is.length then (if s = w then b (setsM is rest σ) G else r d σ G) else r d σ G
  | _ => .bad
def sMatch (e : DE) (m : DM) : DS := fun σ G => bindS (e σ G) σ fun d G1 => m d σ G1
theorem _root_.Dl.PM.le {X : Cx} {cs : List MatchCase} {t t' : TM} (h : PM X cs t) (k : ∀ v D σ H, t' v D σ H → t v D σ H) : PM X cs t' := ⟨fun pins s σ H D v u first I r q => h.run pins s σ H D v u first I r (k v D σ H q)⟩
theorem Ct.setsM {K : PySem.W.Frag} {mg : MG} {ρ : List Addr} {G : GS} {H : Hp} : ∀ {is : List Nat} {ds : List D} {vs : List V} {σd : PEnv} {σ : St}, Ct K mg ρ σd G σ H → RDs K ρ H ds vs → Ct K mg ρ (Dl.setsM is ds σd) G (Dl.setsM is vs σ) H
  | [], ds, vs, σd, σ, c, r => by
    cases ds <;> cases vs <;> exact c
  | i :: is, [], vs, σd, σ, c, r => by cases (show _ = _ from r); exact c
  | i :: is, d :: ds, vs, σd, σ, c, r => by
    obtain ⟨v, tl, e, r1, r2⟩ := r
    subst e
    exact Ct.setsM (is := is) (ds := ds) (vs := tl) (c.set r1) r2
section
variable {X : Cx} {W : WX}
theorem le_mnil : PMd X W [] mNil := pm_nil.le fun v D σ H ⟨ρ, σd, G, d, c, r, h⟩ => h ρ H σ (.refl _ _) c
theorem le_mcase {ps : List Pattern} {xs : List Str} {is : List Nat} {w : Str} {wl : List Nat} {j p1 p2 pos} {body : List Stmt} {rest : List MatchCase} {db : DS} {m : DM} (hc : X.calm = true) (h : PCs X ps xs is) (hb : PSsd X W body db) (hr : PMd X W rest m) (hw : w = S wl := by rfl)
    (hstar : (Pattern.MatchValue (.Constant (.str w) j p1) p2 :: ps).findIdx? (·.isStar) = none := by rfl)
    (hwild : ((Pattern.MatchValue (.Constant (.str w) j p1) p2 :: ps).all fun p => p.isWildcard || (p.isStar && p.names.isEmpty)) = false := by rfl) :
    PMd X W (⟨.MatchSequence (.MatchValue (.Constant (.str w) j p1) p2 :: ps) pos, none, body⟩ :: rest) (mCase wl is db m) := by
  refine (pm_case hc h hb hr hstar hwild).le fun v D σ H ⟨ρ, σd, G, d, c, r, hh⟩ => ?_
  unfold mCase at hh
  split at hh
  · rename_i s0 tl
    have r0 := r
    obtain ⟨a, vs, rfl, sq, rd⟩ := r
    obtain ⟨v0, vr, ev, e0, rr⟩ := rd
    subst ev
    have e0 : v0 = .str (S s0) := e0
    subst e0
    refine ⟨a, S s0, vr, rfl, sq.sq, ?_⟩
    rw [← rr.length]
    by_cases hl : tl.length = is.length
    · rw [if_pos hl] at hh ⊢
      by_cases e : s0 = wl
      · subst e
        rw [if_pos rfl] at hh
        rw [if_pos hw.symm]
        exact ⟨ρ, _, G, c.setsM rr, hh⟩
      · rw [if_neg e] at hh
        rw [if_neg (fun z => e (S_inj (z.trans hw)))]
        exact ⟨ρ, σd, G, _, c, r0, hh⟩
    · rw [if_neg hl] at hh ⊢
      exact ⟨ρ, σd, G, _, c, r0, hh⟩
  · exact hh.elim
theorem le_mlit {ps : List Pattern} {xs : List Str} {is : List Nat} {w : Str} {j p1 p2 pos} {body : List Stmt} {rest : List MatchCase} {db : DS} {m : DM} (hc : X.calm = true) (h : PCs X ps xs is) (hb : PSsd X W body db) (hr : PMd X W rest m)
    (hstar : (Pattern.MatchValue (.Constant (.str w) j p1) p2 :: ps).findIdx? (·.isStar) = none := by rfl)
    (hwild : ((Pattern.MatchValue (.Constant (.str w) j p1) p2 :: ps).all fun p => p.isWildcard || (p.isStar && p.names.isEmpty)) = false := by rfl) :
    PMd X W (⟨.MatchSequence (.MatchValue (.Constant (.str w) j p1) p2 :: ps) pos, none, body⟩ :: rest) (mCase (lit w) is db m) := le_mcase hc h hb hr (S_lit w).symm hstar hwild
theorem le_match {e : Expr} {cs : List MatchCase} {pos : Pos} {d : DE} {m : DM} (he : PEd X W e d) (hc : PMd X W cs m) : PSd X W (.Match e cs pos) (sMatch d m) := by
  refine (ps_match he hc).le fun Dn σ H ⟨ρ, σd, G, c, h⟩ => ⟨ρ, σd, G, c, (SPst.bind c h).mono fun _ _ _ _ _ _ _ _ _ ⟨ρ1, G1, a, e1, c1, d1, h1⟩ => ?_⟩
  exact ⟨ρ1, σd, G1, a, c1, d1, h1⟩
end
/-! ## what it comes to -/
def mW (r : RSt) (P : Po) (_u : TieP P := {}) : Prop := wS r P
theorem wS_match {e : DE} {m : DM} {σ : PEnv} {G : GS} {P : Po} : wS (sMatch e m σ G) P = wE (e σ G) (fun c fs G' => P.ex c fs σ G') fun d G1 => wS (m d σ G1) P := by
  unfold sMatch
  cases e σ G <;> rfl
theorem wS_mnil {d : D} {σ : PEnv} {G : GS} {P : Po} : wS (mNil d σ G) P = P.nx σ G := id rfl
theorem mCase_hit {w is : List Nat} {b : DS} {r : DM} {rest : List D} {σ : PEnv} {G : GS} (h : rest.length = is.length) : mCase w is b r (.tup (.str w :: rest)) σ G = b (setsM is rest σ) G := by
  unfold mCase; simp only [h, if_true]
theorem mCase_not {w s is : List Nat} {b : DS} {r : DM} {rest : List D} {σ : PEnv} {G : GS} (h : s ≠ w) : mCase w is b r (.tup (.str s :: rest)) σ G = r (.tup (.str s :: rest)) σ G := by
  unfold mCase; simp only [h, if_false]; split <;> rfl
end Dl
namespace Dl
open PySem L2
/-! ## sorted(set(xs)) of whole numbers -/
section
open PySem.Spec PyProof.Rows
variable {P : Program} {w : World} {A : Around} {E : Value → Shared → Prop} {s : Shared}
abbrev fso (w : World) : Obj := { cls := .type "set", dict := none, data := .set #[] 0 (.fresh 0 0 (!w.params.followText "set-order")) }
/-- what a set made of a list is asked to be -/
abbrev SetMade (w : World) (s : Shared) (ns : List Int) (h' : Heap) (c : Nat) : Prop := SetR w h' s.heap.objs.size (fun j => decide (j ∈ ns)) c ∧ c ≤ ns.length ∧ ∀ b o, s.heap.get? b = some o → h'.get? b = some o
theorem set_init {l : Addr} {its : Array Value} {ns : List Int} (hh : A.handled = none) (hl : s.heap.IsList l its) (hit : IntsAre its.toList ns) (hb : ns.length + 1 < scanBound) :
    wpAny (model P w) A.in1 (Builtin.«set.__init__» ⟨[.ref s.heap.objs.size, .ref l], []⟩) (fun fin s₂ => ∃ r, fin = .done (.ret r) ∧ r = .none ∧ ∃ h' tk c, s₂ = { s with heap := h', toks := tk } ∧ SetMade w s ns h' c) E { s with heap := s.heap.push (fso w) } := by
  have hsz : its.size = ns.length := by rw [← Array.length_toList]; exact hit.length
  obtain ⟨⟨oc, od, odt, osl⟩, g0, rfl, nl, rfl⟩ := hl
  have hlt : l < s.heap.objs.size := Heap.lt_size g0
  have hfresh : (s.heap.push (fso w)).get? s.heap.objs.size = some (fso w) := Heap.get?_push_size _ rfl
  have hT : Shared.TypeIs { s with heap := s.heap.push (fso w) } (.ref s.heap.objs.size) "set" := ⟨_, hfresh, rfl⟩
  have g1 : (s.heap.push (fso w)).get? l = some { cls := .type "list", dict := od, data := .seq its nl, slots := osl } := Heap.get?_push_of_some _ g0
  have hL : (s.heap.push (fso w)).IsList l its := ⟨_, g1, rfl, nl, rfl⟩
  have f1 := F.sub_list_set
  have f2 := F.sub_list_frozenset
  have f3 : (Value.type "list" == Value.type "dict") = false := by decide
  unfold Builtin.«set.__init__» noKeywords Builtin.Frozenset.updateFrom
  generalize eIt : pyIter = it
  wp_walk
  subst eIt
  refine wpAny_pyIter_list hL (wpAny_bind (wpAny_runValue ?_))
  have hz : (s.heap.push (fso w)).objs.size = s.heap.objs.size + 1 := Heap.size_push ..
  have n1 : l ≠ (s.heap.push (fso w)).objs.size := by rw [hz]; exact Nat.ne_of_lt (Nat.lt_succ_of_lt hlt)
  have n2 : s.heap.objs.size ∉ [(s.heap.push (fso w)).objs.size, l] := by
    simp only [List.mem_cons, List.not_mem_nil, or_false, not_or]
    exact ⟨by rw [hz]; exact Nat.ne_of_lt (Nat.lt_succ_self _), Nat.ne_of_gt hlt⟩
  have item : ∀ (i : Nat) (v : Value), its[i]? = some v → ∃ k t, ns[i]? = some k ∧ v = .int k t := fun i v hv => by
    have hi : i < ns.length := by
      have := (Array.getElem?_eq_some_iff.mp hv).1
      omega
    obtain ⟨t, e⟩ := IntsAre.int_at hit i v (by rw [Array.getElem?_toList]; exact hv)
    rw [List.getD_eq_getElem?_getD, List.getElem?_eq_getElem hi] at e
    exact ⟨ns[i], t, List.getElem?_eq_getElem hi, e⟩
  refine set_update_ints (Walks.list (by simp [hh]) _ l n1 its).toS s.heap.objs.size n2 ns hsz hb item (its.size - 0) 0 _ rfl (Nat.zero_le _) ⟨⟨_, Heap.get?_push_size _ rfl, rfl, rfl⟩, hL.push _⟩ ⟨0, Nat.le_refl _, setR_new_at (Heap.get?_push_of_some _ hfresh)⟩ fun s' c hm hc hS => ?_
  obtain ⟨h', g', d', tk', os'⟩ := s'
  obtain rfl : g' = s.gens := hm.gens
  obtain rfl : d' = s.drawn := hm.drawn
  obtain rfl : os' = s.os := hm.os
  refine wpAny_pure (wpAny_pure ⟨_, rfl, rfl, h', tk', c, rfl, hS, by rw [← hsz]; exact hc, fun b o e => ?_⟩)
  have hbl := Heap.lt_size e
  refine hm.heap b o ?_ (Heap.get?_push_of_some _ (Heap.get?_push_of_some _ e))
  simp only [List.mem_cons, List.not_mem_nil, or_false, not_or]
  exact ⟨Nat.ne_of_lt hbl, by rw [hz]; exact Nat.ne_of_lt (Nat.lt_succ_of_lt hbl)⟩
theorem set_call {l : Addr} {its : Array Value} {ns : List Int} {Q : Value → Shared → Prop} (hh : A.handled = none) (hl : s.heap.IsList l its) (hit : IntsAre its.toList ns) (hb : ns.length + 1 < scanBound)
    (h : ∀ h' tk c, SetMade w s ns h' c → Q (.ref s.heap.objs.size) { s with heap := h', toks := tk }) : wpAny (model P w) A (call (.type "set") [.ref l]) Q E s := by
  obtain ⟨c0, tl, m0⟩ := F.called_set.mro
  have m1 := F.called_set.made
  have m2 := F.called_set.sub
  have m3 := F.called_set.notType
  have m4 := F.called_set.canCreate
  have m5 := F.typeCall_set_1 (.ref l)
  refine wpAny_call (codeAny_of_tree ?_)
  show wpAny _ _ (callAny (.type "set") _) _ _ _
  refine wpAny_pure ⟨Code.quiet_builtin _ (by decide +kernel), codeAny_builtin F.entry_type_call ?_⟩
  rw [Around.under_plain (weight_type_call_type "set" [.ref l] []) rfl]
  repeat (any_goals (first | assumption | wp_step))
  refine codeAny_mono (code_set_led1 (.ref l) (E := E) (Q₁ := fun o s₁ => o = .ref s.heap.objs.size ∧ s₁ = { s with heap := s.heap.push (fso w) }) ⟨rfl, rfl⟩) fun r1 s₁ k1 => ?_
  match r1, k1 with
  | .error e, k1 => exact k1
  | .ok (.ret obj), k1 =>
    obtain ⟨rfl, rfl⟩ := k1
    have hfresh : (s.heap.push (fso w)).get? s.heap.objs.size = some (fso w) := Heap.get?_push_size _ rfl
    have hT : Shared.TypeIs { s with heap := s.heap.push (fso w) } (.ref s.heap.objs.size) "set" := ⟨_, hfresh, rfl⟩
    have i1 := F.called_set.init.lookup
    have i2 := F.called_set.init.bind (.ref s.heap.objs.size)
    repeat (any_goals (first | assumption | wp_step))
    refine codeAny_mono (codeAny_call_builtin (R := wants (fun r s₂ => r = .none ∧ ∃ h' tk c, s₂ = { s with heap := h', toks := tk } ∧ SetMade w s ns h' c) E) F.called_set.init.plain F.entry_set_init (check_set_init_1 hT ?_)) fun r2 s₂ k2 => ?_
    · exact wpAny_mono (set_init (A := A.in1) (by simp [hh]) hl hit hb) (fun fin s' ⟨r, e1, e2, k⟩ => by subst e1; exact ⟨e2, k⟩) fun _ _ z => z
    · match r2, k2 with
      | .error e, k2 => exact k2
      | .ok (.ret v), k2 =>
        obtain ⟨rfl, h', tk, c, rfl, k3⟩ := k2
        repeat (any_goals (first | assumption | wp_step))
        exact h _ _ _ k3
      | .ok .next, k2 => exact k2.elim
      | .ok .brk, k2 => exact k2.elim
      | .ok .cont, k2 => exact k2.elim
  | .ok .next, k1 => exact k1.elim
  | .ok .brk, k1 => exact k1.elim
  | .ok .cont, k1 => exact k1.elim
end
def rSetL (K : PySem.W.Frag) (w : World) : List V → Hp → VK → Prop := fun vs H Q => ∃ (a : Addr) (ns : List Int), vs = [V.ref a] ∧ SqL K H a (ns.map V.int) ∧ ns.length < 64 ∧
  ∀ p c, H p = none → c ≤ ns.length → Q (.ref p) (upd H p (SetO w p (fun j => decide (j ∈ ns)) c))
theorem ints_of_valsI : ∀ {ns : List Int} {us : List Value}, Vals (ns.map V.int) us → PyProof.Rows.IntsAre us ns
  | [], _, .nil => .nil
  | n :: ns, _, .cons r t => by
    obtain ⟨tk, rfl⟩ := r
    exact .cons n tk (ints_of_valsI t)
theorem cr_setL {X : Cx} (hc : X.calm = true) : CallR X (.type "set") (rSetL X.K X.w) := by
  intro pins s σ H vs us Q I r h
  obtain ⟨a, ns, rfl, hs, h64, q⟩ := h
  obtain ⟨its, rv, hl, hz⟩ := I.list hs
  rw [Vals.ref1 r]
  refine set_call (I.ok.hd hc) hl.isList (ints_of_valsI rv) (by unfold scanBound; omega) fun h' tk c ⟨m1, m2, m3⟩ => ?_
  exact ⟨.ref s.heap.objs.size, _, I.laid (t' := tk) m3 (Nat.le_refl _) (setO_new m1), rfl, q _ _ (I.hok.fresh (Nat.le_refl _)) m2⟩
def uniqI : List Int → List Int
  | [] => []
  | a :: l => if a ∈ uniqI l then uniqI l else a :: uniqI l
theorem uniqI_mem {k : Int} : ∀ {l : List Int}, k ∈ uniqI l ↔ k ∈ l
  | [] => Iff.rfl
  | a :: l => by
    have ih := uniqI_mem (k := k) (l := l)
    unfold uniqI
    split
    · rename_i h
      rw [List.mem_cons, ih]
      refine ⟨.inr, fun z => z.elim (fun e => ?_) id⟩
      rw [e]
      exact uniqI_mem.mp h
    · rw [List.mem_cons, List.mem_cons, ih]
theorem uniqI_nd : ∀ l : List Int, (uniqI l).Nodup
  | [] => List.nodup_nil
  | a :: l => by
    have ih := uniqI_nd l
    unfold uniqI
    split
    · exact ih
    · rename_i h
      exact List.nodup_cons.mpr ⟨h, ih⟩
/-- the members, rising -/
def riseI (l : List Int) : List Int := srtI (uniqI l)
theorem riseI_one {l m : List Int} (h1 : m.Pairwise (· < ·)) (h2 : ∀ k, k ∈ m ↔ k ∈ l) : m = riseI l := by
  have h3 : m.Nodup := h1.imp fun h => by omega
  have hp : m.Perm (uniqI l) := (List.perm_ext_iff_of_nodup h3 (uniqI_nd l)).mpr fun k => (h2 k).trans uniqI_mem.symm
  exact srtI_one hp (h1.imp fun h => by omega)
def srtSR (x : D) (G : GS) : RE D := match lstInts G x with
  | some ns => if ns.length < 64 then .ok (.lst ((riseI ns).map D.int)) G else .bad
  | none => .bad
def eSrtS (e : DE) : DE := fun σ G => bindE (e σ G) srtSR
section
variable {X : Cx} {W : WX}
theorem le_srtS {a : Expr} {d : DE} {p p2 q pos : Pos} (hc : X.calm = true) (hg : Gl X "sorted") (hm : X.mg "sorted" = none) (hv : bootBuiltins "sorted" = some (.builtin "sorted")) (hg2 : Gl X "set") (hm2 : X.mg "set" = none) (hv2 : bootBuiltins "set" = some (.type "set")) (ha : PEd X W a d)
    (hs : starEach [a] X.env = (false, eval a X.env) :: starEach [] X.env := by rfl) : PEd X W (.Call (.Name "sorted" p) [.Call (.Name "set" p2) [a] [] q] [] pos) (eSrtS d) := by
  refine (pe_callB (cr_sortedSet hc) hg hm hv (pa_cons (pe_callTy (cr_setL hc) hg2 hm2 hv2 (pa_cons ha pa_nil hs) (by decide) (by decide) hs) pa_nil)).le fun σ H Q ⟨ρ, σd, G, c, h⟩ => ?_
  unfold eSrtS at h
  refine ⟨ρ, σd, G, c, (EP'.bind h).mono fun ρ1 H1 G1 x v _ _ _ _ ⟨ρ2, G2, x2, e2, s2, d2, _, h2⟩ => ?_⟩
  unfold srtSR at h2
  cases hx : lstInts G2 x2 with
  | none => rw [hx] at h2; exact h2.elim
  | some ns =>
    rw [hx] at h2
    simp only at h2
    split at h2
    · rename_i h64
      obtain ⟨l, rfl, sq⟩ := lstInts_at s2 hx d2
      refine ⟨l, ns, rfl, sq, h64, fun p c hp hcn => ⟨p, _, c, rfl, upd_same, by omega, fun ns' p' u1 u2 u3 hp' => ?_⟩⟩
      obtain ⟨e3, s3⟩ := s2.lay (SetO X.w p (fun j => decide (j ∈ ns)) c) hp
      obtain ⟨e4, s4⟩ := s3.lay (.lst (ns'.map V.int)) hp'
      have : ns' = riseI ns := riseI_one u1 fun k => by rw [u2 k, decide_eq_true_eq]
      subst this
      exact h2 ρ2 _ _ (e3.trans e4) s4 ⟨p', _, rfl, ⟨upd_same, s3.fresh hp'⟩, RDs.ints⟩
    · exact h2.elim
end
theorem wE_srtS {σ : PEnv} {G : GS} {E : EK} {e : DE} {Q : D → GS → Prop} : wE (eSrtS e σ G) E Q = wE (e σ G) E fun x G1 => wE (srtSR x G1) E Q := by
  unfold eSrtS; rw [wE_bind]
theorem srtSR_lst {ns : List Int} {G : GS} (h : ns.length < 64) : srtSR (.lst (ns.map D.int)) G = .ok (.lst ((riseI ns).map D.int)) G := by
  simp only [srtSR, lstInts, lstOf, Option.bind_some, intsD_ints, h, if_true]
/-! ## within an except suite -/
theorem hu_mark {A : Around} {h : Option Value} {k : Nat} (hr : Room k A) : (A.mark h).units + 1 < cLine := show A.units + 1 < cLine from hu_of hr
theorem un_mark {A : Around} {h : Option Value} {k : Nat} (hr : Room k A) : (A.mark h).units + 64 < cLine := show A.units + 64 < cLine from hr.units
end Dl
namespace Dl
open PySem PySem.Spec PyProof.Rows L2
/-! ## (x, ..) * n, n from 0 on -/
theorem tuple_none (l : Addr) (items : Array Value) (n : Nat) (dd : Option Addr) (sl : Array (Option Value)) (u : Tok) (hi : items.isEmpty = false) :
    Meets (Builtin.«tuple.__mul__» ⟨[.ref l, .int 0 u], []⟩) (fun _ R s => s.heap.get? l = some { cls := .type "tuple", dict := dd, data := .seq items n, slots := sl } ∧
      R (.ok (.ret (Value.ref s.heap.objs.size))) { s with heap := s.heap.push { cls := Value.type "tuple", data := Data.seq #[] }, toks := s.toks }) :=
  .of_wp fun prog w A R s h => by
    obtain ⟨hp, g, d, tk, os⟩ := s
    obtain ⟨hl, h⟩ := h
    have f1 := AutoSeq1.idx_int
    have c0 : (decide ((0 : Int) < -(2 ^ 63)) || decide ((0 : Int) ≥ 2 ^ 63)) = false := by decide
    have c1 : (items.isEmpty || (0 : Int) == 1) = false := by rw [hi]; rfl
    have c2 : (decide ((0 : Int) ≤ 0) || items.isEmpty) = true := by rw [hi]; rfl
    wp_walk using wpAny_loadPart' hl
    repeat (first
      | (refine wpAny_ite_false (decide_eq_false (by rw [c0]; exact Bool.false_ne_true)) ?_; wp_walk using wpAny_loadPart' hl)
      | (refine wpAny_ite_false (decide_eq_false (by rw [c1]; exact Bool.false_ne_true)) ?_; wp_walk using wpAny_loadPart' hl)
      | (refine wpAny_ite_true (decide_eq_true (by rw [c2])) ?_; wp_walk using wpAny_loadPart' hl)
      | (refine wpAny_ite_false (decide_eq_false (Nat.not_lt.mpr (by rw [sizeLine_eq]; decide))) ?_; wp_walk using wpAny_loadPart' hl))
    exact ⟨_, rfl, h⟩
def rRep0 (K : PySem.W.Frag) : R2 := fun x y H Q => ∃ l xs, x = .ref l ∧ y = .int 0 ∧ SqT K H l xs ∧ xs ≠ [] ∧ ∀ p, H p = none → Q (.ref p) (upd H p (.tup []))
section
variable {X : Cx}
theorem op_rep0 : OpR X (binaryOp .Mult) (rRep0 X.K) := by
  intro pins s σ H x y v u Q I rx ry h
  obtain ⟨l, xs, rfl, rfl, hT, hne, q⟩ := h
  cases rx
  obtain ⟨t, rfl⟩ := ry
  obtain ⟨its, r, ⟨⟨cls, dd, data, sl⟩, ho, hc, n, hd⟩, hs⟩ := I.tuple hT
  simp only at hc hd
  subst hc hd
  have hi : its.toArray.isEmpty = false := by
    cases its with
    | nil => exact absurd (List.length_eq_zero_iff.mp r.length) hne
    | cons a b => rfl
  refine wpAny_binaryOp_repeat_ref (T := "tuple") (U := "int") (by decide) ⟨_, ho, rfl⟩ (fun s' => typeIs_int s' 0 t) noFill_tuple_mul F.fills_int_mul F.slot_int_rmul repeat_tuple F.slot_int_index.lookup
    (call_meets F.slot_int_rmul (typeIs_int s 0 t) F.entry_int_rmul (F.args_int_rmul_2 _ _) (int_rmul_tuple 0 t l its.toArray n dd sl)
      ⟨ho, rfl, ⟨_, ho, rfl⟩, call_meets F.slot_tuple_mul ⟨_, ho, rfl⟩ F.entry_tuple_mul (F.args_tuple_mul_2 _ _) (tuple_none l its.toArray n dd sl t hi) ⟨ho, ?_⟩⟩)
  refine ⟨.ref s.heap.objs.size, _, I.laid (t' := s.toks) (o := .tup []) (fun b ob q => Heap.get?_push_of_some _ q) (Nat.le_refl _) ?_, rfl, q _ (I.hok.fresh (Nat.le_refl _))⟩
  exact ⟨Nat.zero_le _, [], .nil, IsTup.new _ _⟩
noncomputable def bMulG (x y : D) (G : GS) : RE D := match x, y with
  | .tup [], _ => bMulT x y G
  | .tup (a :: l), .int n => if n = 0 then .ok (.tup []) G else bMulT (.tup (a :: l)) (.int n) G
  | _, _ => bMulT x y G
def rMulG (K : PySem.W.Frag) : R2 := fun x y H Q => rMulT K x y H Q ∨ rRep0 K x y H Q
theorem op_mulG : OpR X (binaryOp .Mult) (rMulG X.K) := op_mulT.or op_rep0
theorem sv_mulG : Srv2 X (rMulG X.K) bMulG := by
  intro W ρ G H x y dx dy Q s rx ry q
  unfold bMulG at q
  split at q
  · exact .inl (sv_mulT W ρ G H x y _ _ Q s rx ry q)
  · rename_i a l n
    split at q
    · rename_i hn
      subst hn
      cases (show _ = _ from ry)
      obtain ⟨p, xs, rfl, t1, r1⟩ := id rx
      have l1 := r1.length
      refine .inr ⟨p, xs, rfl, rfl, t1.sq, fun e => by subst e; simp at l1, fun p2 hp => ?_⟩
      obtain ⟨e, s'⟩ := s.lay (.tup []) hp
      exact q _ _ _ e s' ⟨p2, [], rfl, .inl ⟨.inl upd_same, s.fresh hp⟩, RDs.nil⟩
    · exact .inl (sv_mulT W ρ G H x y _ _ Q s rx ry q)
  · exact .inl (sv_mulT W ρ G H x y _ _ Q s rx ry q)
theorem bMulG_one {d : D} {n : Nat} {G : GS} (h : n ≤ 1000) : bMulG (.tup [d]) (.int (n : Int)) G = .ok (.tup (List.replicate n d)) G := by
  unfold bMulG
  have e : repL [d] n = List.replicate n d := by
    induction n with
    | zero => rfl
    | succ n ih => rw [List.replicate_succ, ← ih (by omega)]; rfl
  by_cases hn : (n : Int) = 0
  · have : n = 0 := by omega
    subst this
    rfl
  · simp only [hn, if_false]
    rw [bMulT_nat (by omega) h (by simp) (by simp), e]
end
end Dl
/-! x in y for data of any depth, y a list or a tuple -/
namespace Dl
open PySem L2 PySem.Spec PyProof.Rows
section
variable {X : Cx}
def rInG (K : PySem.W.Frag) (neg : Bool) : R2 := fun x y H Q => ∃ d ds, Dp K H x d ∧ (Dp K H y (.list ds) ∨ Dp K H y (.tuple ds)) ∧ SeqAt.shaped d = true ∧ SeqAt.shaped (.list ds) = true ∧ d.depth ≤ 60 ∧ Q (.bl (xor neg (ds.any fun z => PyData.eqv z d))) H
theorem op_inG (hu : X.A.units + 64 < cLine) : OpR X (compareOp .In) (rInG X.K false) := by
  intro pins s σ H x y v u Q I rx ry h
  obtain ⟨d, ds, hd, he, sd, se, dd, q⟩ := h
  obtain ⟨as, r1⟩ := Dp.reads I d x v hd rx
  rw [Bool.false_xor] at q
  rcases he with he | he
  · obtain ⟨bs, r2⟩ := Dp.reads I (.list ds) y u he ry
    exact SeqAt.in_list_reads r2 r1 (SeqAt.canLay_of_shaped se) (SeqAt.canLay_of_shaped sd) (by have := Nat.min_le_right (PyData.depthAll ds) d.depth; omega) ⟨.bl _, H, I, rfl, q⟩
  · obtain ⟨bs, r2⟩ := Dp.reads I (.tuple ds) y u he ry
    exact SeqAt.in_tuple_reads r2 r1 (SeqAt.canLay_of_shaped se) (SeqAt.canLay_of_shaped sd) (by have := Nat.min_le_right (PyData.depthAll ds) d.depth; omega) ⟨.bl _, H, I, rfl, q⟩
theorem op_notInG (hu : X.A.units + 64 < cLine) : OpR X (compareOp .NotIn) (rInG X.K true) := by
  intro pins s σ H x y v u Q I rx ry h
  obtain ⟨d, ds, hd, he, sd, se, dd, q⟩ := h
  obtain ⟨as, r1⟩ := Dp.reads I d x v hd rx
  rw [Bool.true_xor] at q
  rcases he with he | he
  · obtain ⟨bs, r2⟩ := Dp.reads I (.list ds) y u he ry
    exact SeqAt.notIn_list_reads r2 r1 (SeqAt.canLay_of_shaped se) (SeqAt.canLay_of_shaped sd) (by have := Nat.min_le_right (PyData.depthAll ds) d.depth; omega) ⟨.bl _, H, I, rfl, q⟩
  · obtain ⟨bs, r2⟩ := Dp.reads I (.tuple ds) y u he ry
    exact SeqAt.notIn_tuple_reads r2 r1 (SeqAt.canLay_of_shaped se) (SeqAt.canLay_of_shaped sd) (by have := Nat.min_le_right (PyData.depthAll ds) d.depth; omega) ⟨.bl _, H, I, rfl, q⟩
noncomputable def cInG (neg : Bool) : D → D → GS → RE D := fun x y G => match pyD 12 G x, pyD 12 G y with
  | some a, some (.list ds) => if (SeqAt.shaped a && (SeqAt.shaped (.list ds) && decide (a.depth ≤ 60))) = true then .ok (.bl (xor neg (ds.any fun z => PyData.eqv z a))) G else .bad
  | some a, some (.tuple ds) => if (SeqAt.shaped a && (SeqAt.shaped (.list ds) && decide (a.depth ≤ 60))) = true then .ok (.bl (xor neg (ds.any fun z => PyData.eqv z a))) G else .bad
  | _, _ => .bad
theorem sv_inG (neg : Bool) : Srv2 X (rInG X.K neg) (cInG neg) := by
  intro W ρ G H x y dx dy Q s rx ry q
  unfold cInG at q
  split at q
  · rename_i a ds h1 h2
    split at q
    · rename_i c
      rw [Bool.and_eq_true, Bool.and_eq_true, decide_eq_true_eq] at c
      exact ⟨a, ds, pyD_dp s 12 _ _ _ h1 rx, .inl (pyD_dp s 12 _ _ _ h2 ry), c.1, c.2.1, c.2.2, now q s (v := V.bl _) rfl⟩
    · exact q.elim
  · rename_i a ds h1 h2
    split at q
    · rename_i c
      rw [Bool.and_eq_true, Bool.and_eq_true, decide_eq_true_eq] at c
      exact ⟨a, ds, pyD_dp s 12 _ _ _ h1 rx, .inr (pyD_dp s 12 _ _ _ h2 ry), c.1, c.2.1, c.2.2, now q s (v := V.bl _) rfl⟩
    · exact q.elim
  · exact q.elim
end
theorem toPs_any {a : D} (ha : plD 10 a = true) : ∀ {ds : List D}, plDs 10 ds = true → ((toPs ds).any fun z => PyData.eqv z (toP a)) = ds.any fun d => beqD d a
  | [], _ => by simp [toPs]
  | d :: ds, h => by
    simp only [plDs, Bool.and_eq_true] at h
    have ih := toPs_any ha h.2
    have e := eqv_pl 10 10 d a h.1 ha
    simp only [toPs, List.any_cons, e, ih]
/-- a thing among those of a tuple -/
theorem cInG_tup {neg : Bool} {a : D} {ds : List D} {G : GS} (ha : plD 10 a = true) (hd : plDs 10 ds = true) : cInG neg a (.tup ds) G = .ok (.bl (xor neg (ds.any fun d => beqD d a))) G := by
  have ha1 : plD 10 a = true := ha
  have p1 : pyD 12 G a = some (toP a) := pyD_pl 10 a 12 (by decide) ha
  have p2 : pyD 12 G (.tup ds) = some (.tuple (toPs ds)) := by
    have := pyD_pl (G := G) 11 (.tup ds) 12 (by decide) (by simpa only [plD] using hd)
    simpa only [toP] using this
  have s1 := shaped_pl (k := 10) (by decide) ha
  have s2 := shaped_pl (k := 11) (d := .lst ds) (by decide) (by simpa only [plD] using hd)
  simp only [toP] at s2
  have s3 : (toP a).depth ≤ 60 := by have := (lay_pl 10 a ha).2; omega
  unfold cInG
  rw [p1, p2]
  simp only [s1, s2, s3, decide_true, Bool.and_self, if_true, toPs_any ha hd]
end Dl
/-! t[::-1] of a tuple; () * n -/
namespace HT
open PySem PySem.Spec PyProof.Rows L2
section
variable {prog : Program} {w : World} {A : Around} {E : Value → Shared → Prop} {s : Shared}
theorem sliceApplied_rev {sl : Addr} {n : Nat} {u : Tok} {Q : Int × Int × Nat → Shared → Prop} (hs : s.heap.IsSliceOf sl .none .none (.int (-1) u)) (h : Q ((n : Int) - 1, -1, n) s) :
    wpAny (model prog w) A (Builtin.Slice.sliceApplied (.ref sl) (pure (n : Int))) Q E s := by
  obtain ⟨os, hos, hcs, hds⟩ := id hs
  unfold Builtin.Slice.sliceApplied Builtin.Slice.sliceFields
  refine wpAny_bind (wpAny_bind (wpAny_field hos hds (x := .none) rfl (wpAny_bind (wpAny_field hos hds (x := .none) rfl (wpAny_bind (wpAny_field hos hds (x := .int (-1) u) rfl (wpAny_pure ?_)))))))
  refine wpAny_bind (slicePart_ (o := some (-1)) (.int _ _) ?_)
  show wpAny _ _ (if ((-1 : Int) == 0) = true then _ else _) _ _ s
  rw [if_neg (by decide)]
  refine wpAny_bind (slicePart_none (wpAny_bind (slicePart_none (wpAny_bind (wpAny_pure ?_)))))
  show wpAny _ _ (pure ((n : Int) - 1, (-1 : Int), Builtin.Slice.slicePlaces ((n : Int) - 1) (-1) (-1))) _ _ s
  have hp : Builtin.Slice.slicePlaces ((n : Int) - 1) (-1) (-1) = n := by
    unfold Builtin.Slice.slicePlaces
    rw [if_neg (by decide)]
    by_cases h0 : (n : Int) - 1 > -1
    · rw [if_pos h0, show -(-1 : Int) = 1 from rfl, Int.ediv_one]; omega
    · rw [if_neg h0]; omega
  rw [hp]
  exact wpAny_pure h
theorem pick_rev (xs : Array Value) : ((List.range xs.size).filterMap fun (m : Nat) => xs[(((xs.size : Int) - 1) + (m : Int) * -1).toNat]?).toArray = xs.toList.reverse.toArray := by
  congr 1
  apply List.ext_getElem?
  intro i
  have key : ∀ k, k ≤ xs.size → (List.range k).filterMap (fun (m : Nat) => xs[(((xs.size : Int) - 1) + (m : Int) * -1).toNat]?) = xs.toList.reverse.take k := by
    intro k
    induction k with
    | zero => intro _; simp
    | succ k ih =>
      intro hk
      have hx : (((xs.size : Int) - 1) + (k : Int) * -1).toNat = xs.size - 1 - k := by omega
      have h1 : xs.toList.reverse[k]? = some xs[xs.size - 1 - k] := by
        rw [List.getElem?_reverse (by rw [Array.length_toList]; omega), Array.length_toList, Array.getElem?_toList, Array.getElem?_eq_getElem (by omega)]
      rw [List.range_succ, List.filterMap_append, ih (by omega), List.take_succ, h1]
      simp only [List.filterMap_cons, hx, Array.getElem?_eq_getElem (show xs.size - 1 - k < xs.size by omega), List.filterMap_nil]
      rfl
  rw [key xs.size (Nat.le_refl _), List.take_of_length_le (by simp)]
theorem getItem_tuple_rev {t sl : Addr} {items : Array Value} {u : Tok} {Q : Value → Shared → Prop} (ht : IsTup s.heap t items) (hs : s.heap.IsSliceOf sl .none .none (.int (-1) u))
    (h : Q (.ref s.heap.objs.size) { s with heap := s.heap.push { cls := .type "tuple", data := .seq items.toList.reverse.toArray } })
    (hsz : items.size ≤ sizeLine) : wpAny (model prog w) A (getItem (.ref t) (.ref sl)) Q E s := by
  have htake : sizeOk (.seq items.toList.reverse.toArray) := by
    show items.toList.reverse.toArray.size ≤ sizeLine
    rw [List.size_toArray, List.length_reverse, Array.length_toList]
    exact hsz
  obtain ⟨os, hos, hcs, hds⟩ := id hs
  have hTs : s.TypeIs (.ref sl) "slice" := ⟨os, hos, hcs⟩
  unfold getItem
  try with_reducible refine wpAny_holding ?_
  first | refine wpAny_bind (wpAny_pure ?_) | skip
  refine wpAny_bind (wpAny_sequenceKey ht.typeIs (by decide) ?_)
  refine wpAny_bind (wpAny_callSpecial?_slot (name := Str.ofString "__getitem__") ht.typeIs PyProof.Rows.slot_tuple_getitem
    (wpAny_call_entry PyProof.Rows.slot_tuple_getitem ht.typeIs entry_tuple_getitem ?_ (args_tuple_getitem _ _)))
  show wpAny _ _ (Builtin.Tuple.tupleItemsOf (.ref t) >>= _) _ _ s
  refine wpAny_bind (tupleItemsOf_ ht ?_)
  refine wpAny_bind (wpAny_typeOf hTs ?_)
  rw [if_pos (by decide)]
  refine wpAny_bind (sliceApplied_rev (n := items.size) hs ?_)
  show wpAny _ _ (if (((items.size : Int) - 1) == 0 && (-1 : Int) == 1 && items.size == items.size) = true then _ else _) _ _ s
  rw [if_neg (by rw [show ((-1 : Int) == 1) = false from rfl, Bool.and_false, Bool.false_and]; exact Bool.false_ne_true), pick_rev]
  first
    | exact wpAny_bind (m := Builtin.Tuple.tupleExact _) (wpAny_newObj_type (wpAny_pure ⟨_, rfl, wpAny_pure h⟩) htake)
    | exact wpAny_bind (m := Builtin.Tuple.tupleExact _) (wpAny_newObj_type (wpAny_bind (wpAny_pure (wpAny_pure ⟨_, rfl, wpAny_pure h⟩))) htake)
    | exact wpAny_bind (wpAny_bind (m := Builtin.Tuple.tupleExact _) (wpAny_newObj_type (wpAny_pure (wpAny_pure ⟨_, rfl, wpAny_pure h⟩)) htake))
    | exact wpAny_bind (wpAny_bind (m := Builtin.Tuple.tupleExact _) (wpAny_newObj_type (wpAny_pure ⟨_, rfl, wpAny_pure h⟩) htake))
end
end HT
namespace Dl
open PySem PySem.Spec PyProof.Rows L2
def bRevT (x y : D) (G : GS) : RE D := match y, x with
  | .int i, .tup xs => if i = -1 then .ok (.tup xs.reverse) G else .bad
  | _, _ => .bad
section
variable {X : Cx} {W : WX}
theorem le_revT {e st : Expr} {d ds : DE} {p2 pos : Pos} (he : PEd X W e d) (hst : PEd X W st ds) : PEd X W (.Subscript e (.Slice none none (some st) p2) pos) (eBin bRevT d ds) := by
  refine ⟨fun pins s σ H Q I h => ?_⟩
  obtain ⟨ρ, σd, G, ct, h⟩ := h
  have first := he.run pins s σ H _ I ⟨ρ, σd, G, ct, (EP'.bind h).mono fun _ _ _ _ _ _ _ _ _ z => z⟩
  refine Subscript_ (thn first fun v s1 ⟨x, H1, I1, rv, ρ1, G1, dx, e1, rs1, r1, _, h1⟩ => ?_)
  refine wpAny_Slice (thn ((po_none (X := X)).run pins s1 σ H1 (fun l H2 => l = none ∧ H2 = H1) I1 ⟨rfl, rfl⟩) fun vl s2 ⟨l, H2, I2, pl, el, eh⟩ => thn ((po_none (X := X)).run pins s2 σ H2 (fun l H3 => l = none ∧ H3 = H2) I2 ⟨rfl, rfl⟩) fun vu s3 ⟨u, H3, I3, pu, eu, eh2⟩ => ?_)
  subst eh2
  subst eh
  subst el
  subst eu
  have third : tPart (tE X.K X.mg W ds) σ H3 (fun i H4 => i = some (-1) ∧ ∃ ρ2 G2 xs, Ext ρ1 H3 ρ2 H4 ∧ RS X.K X.mg ρ2 G2 H4 ∧ dx = .tup xs ∧ EPD X.K X.mg (WA W σ) ρ2 H4 (.ok (.tup xs.reverse) G2) Q) := by
    refine ⟨ρ1, σd, G1, ct.ext e1 rs1, (EP'.bind h1).mono fun _ H4 _ _ y _ _ _ _ ⟨ρ2, G2, dy, e2, s2, r2, _, h2⟩ => ?_⟩
    unfold bRevT at h2
    cases dy with
    | int i =>
      cases dx with
      | tup xs =>
        simp only at h2
        split at h2
        · rename_i hi
          exact ⟨i, r2, by rw [hi], ρ2, G2, xs, e2, s2, rfl, h2⟩
        · exact h2.elim
      | _ => exact h2.elim
    | _ => exact h2.elim
  refine thn ((po_some hst).run pins s3 σ H3 _ I3 third) fun vk s4 ⟨i, H4, I4, pk, ei, ρ2, G2, xs, e2, rs2, hx, h2⟩ => ?_
  subst ei
  subst hx
  have I5 : Inv X pins σ H4 { s4 with heap := s4.heap.push { cls := .type "slice", data := .fields #[vl, vu, vk] } } := I4.kept (t' := s4.toks) fun b ob q => Heap.get?_push_of_some _ q
  obtain ⟨a, vs, rfl, tq, rvs⟩ := r1.ext e2
  obtain rfl : v = Value.ref a := rv
  obtain ⟨its, r, ht, hz⟩ := I5.tuple tq.sq
  have hlen := r.length
  have hg : wpAny (model X.prog X.w) X.A (getItem (.ref a) (.ref s4.heap.objs.size)) (EP X pins σ Q) X.xe { s4 with heap := s4.heap.push { cls := .type "slice", data := .fields #[vl, vu, vk] } } := by
    cases pl
    cases pu
    cases pk
    refine HT.getItem_tuple_rev ht (Heap.IsSliceOf.new ..) ?_ (by rw [List.size_toArray] <;> omega)
    obtain ⟨ee, ss⟩ := rs2.lay (.tup vs.reverse) (I5.hok.fresh (Nat.le_refl _))
    refine ⟨.ref _, _, I5.laid (o := .tup vs.reverse) (fun b ob q => Heap.get?_push_of_some _ q) (Nat.le_refl _) ?_, rfl, h2 ρ2 _ _ ee ss ⟨_, _, rfl, .inl ⟨.inl upd_same, rs2.fresh (I5.hok.fresh (Nat.le_refl _))⟩, (rvs.ext ee).reverse⟩⟩
    exact ⟨by rw [List.length_reverse]; exact hz, _, vals_rev r, IsTup.new _ _⟩
  show wpAny (model X.prog X.w) X.A (subscriptTail e (.Slice none none (some st) p2) (.ref a) (.ref s4.heap.objs.size)) (EP X pins σ Q) X.xe { s4 with heap := s4.heap.push { cls := .type "slice", data := .fields #[vl, vu, vk] } }
  exact tail_any (ops := [.ref a, .ref s4.heap.objs.size]) ht.typeIs PyProof.Rows.slot_tuple_getitem.lookup hg (by with_unfolding_all rfl)
/-- () * n is () -/
def rRepE (K : PySem.W.Frag) : R2 := fun x y H Q => ∃ l i, x = .ref l ∧ y = .int i ∧ 0 ≤ i ∧ i ≤ 1000 ∧ SqT K H l [] ∧ Q (.ref l) H
theorem op_repE : OpR X (binaryOp .Mult) (rRepE X.K) := by
  intro pins s σ H x y v u Q I rx ry h
  obtain ⟨l, i, rfl, rfl, hi0, hi1, hT, q⟩ := h
  cases rx
  obtain ⟨t, rfl⟩ := ry
  obtain ⟨its, r, ⟨⟨cls, dd, data, sl⟩, ho, hc, n, hd⟩, hs⟩ := I.tuple hT
  simp only at hc hd
  subst hc hd
  have c0 : (decide (i < -(2 ^ 63)) || decide (i ≥ 2 ^ 63)) = false := by
    rw [decide_eq_false (by omega), decide_eq_false (by omega)] <;> rfl
  have c1 : (its.toArray.isEmpty || i == 1) = true := by
    cases its with
    | nil => rfl
    | cons a b => have := r.length; simp at this
  refine wpAny_binaryOp_repeat_ref (T := "tuple") (U := "int") (by decide) ⟨_, ho, rfl⟩ (fun s' => typeIs_int s' i t) noFill_tuple_mul F.fills_int_mul F.slot_int_rmul repeat_tuple F.slot_int_index.lookup
    (call_meets F.slot_int_rmul (typeIs_int s i t) F.entry_int_rmul (F.args_int_rmul_2 _ _) (int_rmul_tuple i t l its.toArray n dd sl)
      ⟨ho, rfl, ⟨_, ho, rfl⟩, call_meets F.slot_tuple_mul ⟨_, ho, rfl⟩ F.entry_tuple_mul (F.args_tuple_mul_2 _ _) (tuple_mul1 l its.toArray n dd sl i t c0 c1) ⟨ho, ?_⟩⟩)
  exact ⟨.ref l, H, I, rfl, q⟩
noncomputable def bMulE (x y : D) (G : GS) : RE D := match x, y with
  | .tup [], .int n => if 0 ≤ n ∧ n ≤ 1000 then .ok (.tup []) G else .bad
  | _, _ => bMulG x y G
def rMulE (K : PySem.W.Frag) : R2 := fun x y H Q => rMulG K x y H Q ∨ rRepE K x y H Q
theorem op_mulE : OpR X (binaryOp .Mult) (rMulE X.K) := op_mulG.or op_repE
theorem sv_mulE : Srv2 X (rMulE X.K) bMulE := by
  intro W ρ G H x y dx dy Q s rx ry q
  unfold bMulE at q
  split at q
  · rename_i n
    split at q
    · rename_i hn
      cases (show _ = _ from ry)
      obtain ⟨p, xs, rfl, t1, r1⟩ := id rx
      have l1 := r1.length
      have : xs = [] := List.length_eq_zero_iff.mp (by simpa using l1.symm)
      subst this
      exact .inr ⟨p, n, rfl, rfl, hn.1, hn.2, t1.sq, now q s rx⟩
    · exact q.elim
  · exact .inl (sv_mulG W ρ G H x y _ _ Q s rx ry q)
end
theorem bRevT_tup {xs : List D} {G : GS} : bRevT (.tup xs) (.int (-1)) G = .ok (.tup xs.reverse) G := rfl
theorem bMulE_tup {a : List D} {n : Nat} {G : GS} (h1 : 1 ≤ n) (h2 : n ≤ 1000) (h4 : a.length ≤ 1000) : bMulE (.tup a) (.int (n : Int)) G = .ok (.tup (repL a n)) G := by
  cases a with
  | nil =>
    unfold bMulE
    simp only
    rw [if_pos (by omega)]
    have : ∀ m, repL ([] : List D) m = [] := fun m => by
      induction m with
      | zero => rfl
      | succ m ih => show [] ++ repL [] m = []; rw [ih]; rfl
    rw [this]
  | cons b l =>
    show bMulG (.tup (b :: l)) (.int (n : Int)) G = _
    unfold bMulG
    simp only
    rw [if_neg (by omega)]
    exact bMulT_nat h1 h2 (by simp) h4
end Dl
/-! a slice of the script -/
namespace Dl
open PySem PySem.Spec PyProof.Rows L2
def bSlS (x : D) (lo hi : Option Int) (G : GS) : RE D := match x with
  | .scr ns => .ok (.lst (cutL (ns.map D.int) lo hi)) G
  | x => bSl x lo hi G
def eSlS (e : DE) (lo hi : DO) : DE := fun σ G => bindE (e σ G) fun x G1 => bindE (lo σ G1) fun l G2 => bindE (hi σ G2) fun h G3 => bSlS x l h G3
section
variable {X : Cx} {W : WX}
theorem le_slS {e : Expr} {lo hi : Option Expr} {d : DE} {dl dh : DO} {p2 pos : Pos} (he : PEd X W e d) (hl : POd X W lo dl) (hh : POd X W hi dh) : PEd X W (.Subscript e (.Slice lo hi none p2) pos) (eSlS d dl dh) := by
  refine (pe_slice (sl_X.or sl_tupA) he hl hh).le fun σ H Q ⟨ρ, σd, G, c, h⟩ => ⟨ρ, σd, G, c, (EP'.bind h).mono fun _ H1 _ _ v1 _ _ _ _ ⟨ρ1, G1, a1, e1, s1, d1, _, h1⟩ => ?_⟩
  refine ⟨ρ1, σd, G1, c.ext e1 s1, (EP'.bind h1).mono fun _ H2 _ _ v2 _ _ _ _ ⟨ρ2, G2, a2, e2, s2, d2, _, h2⟩ => ?_⟩
  refine ⟨ρ2, σd, G2, (c.ext e1 s1).ext e2 s2, (EP'.bind h2).mono fun _ H3 _ _ v3 _ _ _ _ ⟨ρ3, G3, a3, e3, s3, d3, _, h3⟩ => ?_⟩
  cases d2; cases d3
  have d1' := (d1.ext e2).ext e3
  by_cases hs : ∃ ns, a1 = .scr ns
  · obtain ⟨ns, rfl⟩ := hs
    obtain ⟨a, rfl, la⟩ := d1'
    exact .inl (.inr ⟨a, ns.map V.int, rfl, la.sq, fun p hp => lay_lst h3 s3 (RDs.cutL (RDs.ints) _ _) hp⟩)
  have e0 : bSlS a1 v2 v3 G3 = bSl a1 v2 v3 G3 := by
    cases a1 <;> first | rfl | exact absurd ⟨_, rfl⟩ hs
  rw [e0] at h3
  unfold bSl at h3
  split at h3
  · rename_i l _
    cases (show _ = _ from d1')
    split at h3
    · rename_i hl
      refine .inl (.inl ⟨S _, rfl, by rw [S_len, ← maxLine_eq]; exact hl, ?_⟩)
      rw [cutS_S]
      exact now h3 s3 rfl
    · exact h3.elim
  · rename_i ds
    obtain ⟨a, vs, rfl, t, r⟩ := d1'
    refine .inr ⟨a, vs, rfl, t.sq, fun hw => ?_, fun hw p hp => ?_⟩
    · have r2 := r.cutL v2 v3
      have e : cutV vs v2 v3 = vs := by
        unfold cutV
        rw [hw.1, hw.2]; simp
      rw [e] at r2
      exact now h3 s3 ⟨a, vs, rfl, t, r2⟩
    · obtain ⟨e, s'⟩ := s3.lay (.tup (cutV vs v2 v3)) hp
      exact h3 _ _ _ e s' ⟨p, _, rfl, .inl ⟨.inl upd_same, s3.fresh hp⟩, (r.cutL v2 v3).ext e⟩
  · split at h3
    · rename_i ds hd
      obtain ⟨a, vs, rfl, hv, r⟩ := lstOf_at s3 hd d1'
      exact .inl (.inr ⟨a, vs, rfl, .of hv, fun p hp => lay_lst h3 s3 (r.cutL _ _) hp⟩)
    · exact h3.elim
end
theorem wE_slS {d : DE} {lo hi : DO} {σ : PEnv} {G : GS} {E : EK} {Q : D → GS → Prop} : wE (eSlS d lo hi σ G) E Q = wE (d σ G) E fun x G1 => wE (lo σ G1) E fun l G2 => wE (hi σ G2) E fun h G3 => wE (bSlS x l h G3) E Q := by
  unfold eSlS; (repeat (first | rfl | rw [wS_bind] | rw [wE_bind] | rw [wE_if] | rw [wE_ite] | rw [wE_ok] | refine wE_ext fun _ _ => ?_))
theorem bSlS_scr {ns : List Int} {lo hi : Option Int} {G : GS} : bSlS (.scr ns) lo hi G = .ok (.lst (cutL (ns.map D.int) lo hi)) G := rfl
end Dl
/-! x *= n of whole numbers -/
namespace Dl
open PySem PySem.Spec PyProof.Rows L2
noncomputable def bImul : D → D → GS → RE D := fun x y G => match x, y with
  | .int i, .int j => if cmul i j = true then .ok (.int (i * j)) G else .bad
  | _, _ => .bad
section
variable {X : Cx} {W : WX}
theorem sv_imul : Srv2 X (rI CMul fun i j => .int (i * j)) bImul := by
  intro W ρ G H x y dx dy Q s rx ry q
  unfold bImul at q
  split at q
  · rename_i i j
    cases (show _ = _ from rx); cases (show _ = _ from ry)
    split at q
    · rename_i c
      simp only [cmul_eq, Bool.or_eq_true, Bool.and_eq_true, decide_eq_true_eq] at c
      exact ⟨_, _, rfl, rfl, c, now q s rfl⟩
    · exact q.elim
  · exact q.elim
end
theorem bImul_lit {i j : Int} (h1 : -(2 ^ 64) < j) (h2 : j < 2 ^ 64) {G : GS} : bImul (.int i) (.int j) G = .ok (.int (i * j)) G := by
  simp only [bImul]
  have : cmul i j = true := by rw [cmul_eq, decide_eq_true h1, decide_eq_true h2]; simp
  rw [if_pos this]
end Dl
/-! self.f, self.g = e: a pair of an object's fields -/
namespace Dl
open PySem PySem.Spec PyProof.Rows L2
/-- what is never come to -/
def sBad : DS := fun _ _ => .bad
theorem le_bad {X : Cx} {W : WX} {s : Stmt} : PSd X W s sBad := ⟨fun pins s σ H D I ⟨_, _, _, _, h⟩ => h.elim⟩
def gFldT (K : PySem.W.Frag) (ta : TE) (f : Str) : TG := fun v σ H Q => ta σ H fun x H1 => ∃ a C dx fs, x = .ref a ∧ H1 a = some (.ins C dx fs) ∧ Cls K C ∧ NoAttr K C f ∧ fs.length < 1000 ∧ Q σ (upd H1 a (.ins C dx (putF f v fs)))
section
variable {X : Cx} {W : WX}
theorem pg_fld {o : Expr} {f : Str} {ta : TE} {pos : Pos} (ha : PE X o ta) : PG X (.Attribute o f pos) (gFldT X.K ta f) := by
  refine ⟨fun pins s σ H v u Q I r h => ?_⟩
  rw [assign_Attribute]
  refine wpAny_bind (wpAny_holding (thn (ha.run pins s σ H _ I h) fun ov s1 ⟨x, H1, I1, rx, a, C, dx, fs, ex, ea, c, n, l, q⟩ => ?_))
  subst ex
  obtain rfl : ov = Value.ref a := rx
  refine wpAny_bind (wpAny_standAt (wpAny_bind (wpAny_holding (setattr_ok I1 ea c n l r fun s3 I3 => ?_))))
  exact wpAny_release ⟨σ, _, I3, q⟩
def fld2R (al : List Str) (f g : Str) (o1 o2 : DE) (y : D) (σ : PEnv) (G : GS) : RSt := match y with
  | .tup [d1, d2] => bindS (o1 σ G) σ fun x G2 => seqR (setF al f x d1 σ G2) fun σ' G3 => bindS (o2 σ' G3) σ' fun x2 G4 => setF al g x2 d2 σ' G4
  | _ => .bad
def sFld2 (al : List Str) (f g : Str) (o1 o2 v : DE) : DS := fun σ G => bindS (v σ G) σ fun y G1 => fld2R al f g o1 o2 y σ G1
theorem SPst.seqN {K : PySem.W.Frag} {mg : MG} {W : WX} {ρ : List Addr} {H : Hp} {r : RSt} {b : DS} {Dn : Ends} {N : L2.St → Hp → Prop} (h : SPst K mg W ρ H (seqR r b) Dn)
    (k : ∀ ρ' H' σ' σd' G', Ext ρ H ρ' H' → Ct K mg ρ' σd' G' σ' H' → SPst K mg W ρ' H' (b σd' G') Dn → N σ' H') : SPst K mg W ρ H r { Dn with nx := N } := by
  cases r with
  | nx σ G => exact fun ρ' H' σ' e c => k ρ' H' σ' σ G e c (SPst.deeper e h)
  | ret d G => exact h
  | brk σ G => exact h
  | cont σ G => exact h
  | exc c fs σ G => exact h
  | bad => exact h
theorem le_fld2 {al : List Str} {o1 o2 value : Expr} {f g : Str} {d1 d2 vd : DE} {pos p1 p2 pt : Pos} {k : Nat} (hc : X.calm = true) (na : NA X.K X.mg al f) (na2 : NA X.K X.mg al g) (hv : PEd X W value vd) (h1 : PEd X W o1 d1) (h2 : PEd X W o2 d2)
    (hs : swapsWithSole [.Tuple [.Attribute o1 f p1, .Attribute o2 g p2] k pt] value pos.line X.env = pure false := by rfl) (hw : swappedStores [.Tuple [.Attribute o1 f p1, .Attribute o2 g p2] k pt] value X.env = pure none := by rfl)
    (ha : (assignEach [.Tuple [.Attribute o1 f p1, .Attribute o2 g p2] k pt] X.env).map (·.2) = [assign (.Tuple [.Attribute o1 f p1, .Attribute o2 g p2] k pt) X.env] := by rfl) :
    PSd X W (.Assign [.Tuple [.Attribute o1 f p1, .Attribute o2 g p2] k pt] value pos) (sFld2 al f g d1 d2 vd) := by
  refine (ps_asg hv (pg_tup (n := 2) hc (pgs_cons (pg_fld h1) (pgs_cons (pg_fld h2) pgs_nil)) rfl rfl) hs hw ha).le fun Dn σ H ⟨ρ, σd, G, c, h⟩ => ⟨ρ, σd, G, c, (SPst.bind c h).mono fun _ H1 _ _ y _ _ _ _ ⟨ρ1, G1, dy, e1, c1, r1, h1⟩ => ?_⟩
  unfold fld2R at h1
  split at h1
  · rename_i a b
    obtain ⟨p, vs, rfl, t, rs⟩ := r1
    obtain ⟨va, vs1, rfl, ra, rs1⟩ := rs
    obtain ⟨vb, vs2, rfl, rb, rs2⟩ := rs1
    cases (show _ = _ from rs2)
    refine ⟨p, _, rfl, t.sq, rfl, _, _, rfl, ρ1, σd, G1, c1, (SPst.bind c1 h1).mono fun _ H2 _ _ x _ _ _ _ ⟨ρ2, G2, dx, e2, c2, r2, h2⟩ => ?_⟩
    obtain ⟨a1, C, dx1, fs, z1, _, z2, z3, z4, z5, z6⟩ := setF_ok na c2 r2 (ra.ext e2) (SPst.seqN (N := fun σ' H' => ∃ ρ3 σd3 G3, Ext ρ2 H2 ρ3 H' ∧ Ct X.K X.mg ρ3 σd3 G3 σ' H' ∧ SPst X.K X.mg W ρ3 H' (bindS (d2 σd3 G3) σd3 fun x2 G4 => setF al g x2 b σd3 G4) Dn) h2 fun ρ' H' σ' σd' G' e c h => ⟨ρ', σd', G', e, c, h⟩)
    obtain ⟨ρ3, σd3, G3, e3, c3, h3⟩ := z6
    refine ⟨a1, C, dx1, fs, z1, z2, z3, z4, z5, _, _, rfl, ρ3, σd3, G3, c3, (SPst.bind c3 h3).mono fun _ H4 _ _ x2 _ _ _ _ ⟨ρ4, G4, dx4, e4, c4, r4, h4⟩ => ?_⟩
    obtain ⟨a5, C5, dx5, fs5, y1, _, y2, y3, y4, y5, y6⟩ := setF_ok na2 c4 r4 (((rb.ext e2).ext e3).ext e4) h4
    exact ⟨a5, C5, dx5, fs5, y1, y2, y3, y4, y5, rfl, y6⟩
  · exact h1.elim
end
theorem wS_fld2 {al : List Str} {f g : Str} {o1 o2 v : DE} {σ : PEnv} {G : GS} {P : Po} : wS (sFld2 al f g o1 o2 v σ G) P = wE (v σ G) (fun c fs G1 => P.ex c fs σ G1) fun y G1 => wS (fld2R al f g o1 o2 y σ G1) P := by unfold sFld2; rw [wS_bind]
theorem fld2R_tup {al : List Str} {f g : Str} {o1 o2 : DE} {d1 d2 : D} {σ : PEnv} {G : GS} {P : Po} : wS (fld2R al f g o1 o2 (.tup [d1, d2]) σ G) P = wE (o1 σ G) (fun c fs G1 => P.ex c fs σ G1) fun x G2 => wS (setF al f x d1 σ G2) ⟨fun σ' G3 => wE (o2 σ' G3) (fun c fs G1 => P.ex c fs σ' G1) fun x2 G4 => wS (setF al g x2 d2 σ' G4) P, P.rt, P.bk, P.ct, P.ex⟩ := by
  unfold fld2R
  simp only []
  rw [wS_bind]
  refine wE_ext fun x G2 => ?_
  cases setF al f x d1 σ G2 <;> simp only [seqR, wS_bind] <;> rfl
end Dl
/-! calls of own defs that neither raise nor loop, whatever is handled; <= of tuples of whole numbers -/
namespace L2
open PySem PySem.Spec PyProof.Rows L2H
structure FnF (P : Program) (w : World) (K : PySem.W.Frag) (mg : Str → Option Value) (base : Heap) (CX : CXT) (k : Nat) (f : Addr) (fd : FuncData) (ps : List Str) (sp : Sp) : Prop where
  len : ∀ vs H Q E, sp vs H Q E → vs.length = ps.length
  run : ∀ (A : Around) (outer : List Env) (s : Shared) (H : Hp) (args : Args) (us : List Value) (vs : List V) (Q : VK) (E : XK), RoomH k A → Env0 P w K mg base A outer s H → BindsTo s fd args (ps.zip us) → Vals vs us → sp vs H Q E →
    codeAny (model P w) A (.call (.ref f) args) (CR CX outer P w H s Q E) s
def cxF (CX : CXT) (P : Program) (w : World) (K : PySem.W.Frag) (mg : Str → Option Value) (base : Heap) (N : List Str) (qual : Str) (scope : Scope) (f : Addr) (cd : Value) (A : Around) (outer : List Env) (s : Shared) (H : Hp) (E : XK) : Cx :=
  { cxOf CX P w K mg base N qual scope f cd A outer s H E with calm := false }
theorem inv_startF {CX : CXT} {P : Program} {w : World} {K : PySem.W.Frag} {mg : Str → Option Value} {base : Heap} {N ps : List Str} {qual : Str} {scope : Scope} {f : Addr} {cd : Value} {A : Around} {outer : List Env} {s s1 : Shared} {H : Hp} {E : XK} {us : List Value} {vs : List V}
    (S : FnScope N ps scope) (e0 : Env0 P w K mg base A outer s H) (hl : vs.length = ps.length) (r : Vals vs us)
    (x : InCallC s s.heap.objs.size (bindL (envOfC qual scope s.heap.objs.size f cd).kindOf (ps.zip us) fun _ => none) (cellsFrom (s.heap.objs.size + 1) scope.names []) (bindC (envOfC qual scope s.heap.objs.size f cd).kindOf (ps.zip us) fun _ => none) s1) :
    Inv (cxF CX P w K mg base N qual scope f cd A outer s H E) [] (start N vs) H s1 := by
  have hpl : ps.length ≤ N.length := by have := congrArg List.length S.pre; rw [List.length_take] at this; omega
  obtain ⟨h1, tk, rfl, hk⟩ := x.done
  have noA : ∀ b : Addr, b ∉ (cxF CX P w K mg base N qual scope f cd A outer s H E).ex := fun b z => absurd (show b ∈ ([] : List Addr) from z) (by simp)
  refine ⟨⟨e0.mod, S.kind, rfl, rfl, Nat.le_refl _, fun y z c h1 h2 => ?_, fun y hy => ?_, fun y c _ h => ?_, (fun z => Bool.noConfusion (show false = true from z)), Around.frames_deeper e0.frames, .inr ⟨rfl, rfl⟩, fun b z => absurd z (noA b), e0.bs, e0.bsz, fun b _ _ => noA b, fun b z => absurd z (noA b), e0.funs, e0.frf⟩,
    rfl, e0.bare, Un.kept hk, ⟨_, x.toInCall.ns, fun i y v h1 h2 h3 => ?_⟩, fun y c h => ⟨_, x.cell y c h⟩, e0.hok.fresh (Nat.le_refl _), fun y c h => ?_, fun p hp => absurd (show p ∈ ([] : List (Addr × Obj)) from hp) (by simp), e0.hok.kept hk, ?_⟩
  · exact name_of_addr x.apart (PySem.mem_of_lookup h1) (PySem.mem_of_lookup h2)
  · have hy : scope.names.lookup y = some .cell ∨ scope.names.lookup y = some .free := hy
    rcases hy with hy | hy
    · exact cell_has hy
    · exact absurd rfl (S.nofree _ (PySem.mem_of_lookup hy))
  · exact Nat.le_of_lt (x.above y c (PySem.mem_of_lookup h))
  · have hi : i < vs.length := by
      unfold start at h2
      by_cases hi : i < vs.length
      · exact hi
      · rw [List.getElem?_append_right (by simpa using hi)] at h2
        rw [List.getElem?_replicate] at h2
        split at h2 <;> cases h2
    have ha : vs[i]? = some v := by
      unfold start at h2
      rw [List.getElem?_append_left (by simpa using hi), List.getElem?_map] at h2
      cases e : vs[i]? with
      | none => rw [e] at h2; cases h2
      | some a => rw [e] at h2; cases h2; rfl
    obtain ⟨u, hu, rv⟩ := r.get ha
    have hp : ps[i]? = some y := by
      rw [← S.pre, List.getElem?_take_of_lt (by omega)]; exact h1
    have ndP : ps.Nodup := by rw [← S.pre]; exact S.nd.sublist (List.take_sublist _ _)
    refine ⟨u, rv, ?_⟩
    rcases S.par y (List.mem_of_getElem? hp) with k | k
    · exact .inl ⟨k, bindL_get ndP hp hu k⟩
    · obtain ⟨c, e⟩ := cell_has (n := s.heap.objs.size + 1) k
      refine .inr ⟨.inl k, c, e, ?_⟩
      have q := x.cell y c e
      rw [bindC_get ndP hp hu (by show scope.names.lookup y ≠ _; rw [k]; decide)] at q
      exact q
  · exact e0.hok.fresh (Nat.le_of_lt (x.above y c (PySem.mem_of_lookup h)))
  · unfold start
    show _ = N.length
    rw [List.length_append, List.length_map, List.length_replicate]
    omega
theorem fn_ofF {CX : CXT} {P : Program} {w : World} {K : PySem.W.Frag} {mg : Str → Option Value} {base : Heap} {k : Nat} {f : Addr} {name qual : Str} {params : Arguments} {body : List Stmt} {scope : Scope} {dV kV doc pm cdv ct oc : Value} {an od : Option Addr}
    {osl : Array (Option Value)} {N ps : List Str} {sp : Sp} (lk : K.lookup f = some ⟨oc, od, .func (PySem.W.fnOf name qual params body scope dV kV doc pm an cdv ct), osl⟩) (hcd : PySem.W.codeIn K cdv qual = true) (S : FnScope N ps scope)
    (len : ∀ vs H Q E, sp vs H Q E → vs.length = ps.length)
    (hbody : ∀ (A : Around) (outer : List Env) (s : Shared) (H : Hp) (vs : List V) (Q : VK) (E : XK), RoomH k (A.deeper (envOfC qual scope s.heap.objs.size f cdv)) → sp vs H Q E →
      ∃ t, PSs (cxF CX P w K mg base N qual scope f cdv A outer s H E) body t ∧ t { nx := fun _ H' => Q .non H', rt := Q } (L2.start N vs) H) :
    FnF P w K mg base CX (k + 1) f (PySem.W.fnOf name qual params body scope dV kV doc pm an cdv ct) ps sp := by
  refine ⟨len, fun A outer s H args us vs Q E hr e0 hb r hsp => ?_⟩
  have hl := len _ _ _ _ hsp
  have KX : K.In s.heap := e0.mod.kin.keeps fun b o e => (e0.bs b o e).1
  have lim : s.heap.NoLimit := e0.mod.nolimit.keeps fun b o e => (e0.bs b o e).1
  have hkind : ∀ y ∈ ps.zip us, scope.names.lookup y.1 = some .local ∨ (scope.names.lookup y.1 = some .cell ∧ ((cellsFrom (s.heap.objs.size + 1) scope.names []).lookup y.1).isSome = true) := fun ⟨n, v⟩ hy => by
    rcases S.par n (List.of_mem_zip hy).1 with q | q
    · exact .inl q
    · exact .inr ⟨q, PySem.W.cellsFrom_some _ _ _ (.inl q)⟩
  refine codeAny_call_function hr.depth (KX _ _ lk) rfl S.co S.gen rfl (PySem.W.codeRec_of KX hcd) (hb _ _ _ _ ?_)
  refine wpAny_newFunctionEnv_cells S.kind hkind fun env he s1 x => ?_
  subst he
  refine ⟨lim.keeps x.toInCall.keep, codeAny_func ?_⟩
  obtain ⟨t, ht, hq⟩ := hbody A outer s H vs Q E (hr.deeper _) hsp
  have I : Inv (cxF CX P w K mg base N qual scope f cdv A outer s H E) [] (L2.start N vs) H s1 := inv_startF S e0 hl r x
  refine wpAny_mono (ht.run [] s1 (L2.start N vs) H _ I hq) (fun fl s' hs => ?_) fun e s' hs => hs
  have fin : ∀ {σ' : St} {H' : Hp} {v : V} {u : Value}, Inv (cxF CX P w K mg base N qual scope f cdv A outer s H E) [] σ' H' s' → RelV v u → Q v H' → CE outer P w H s Q u s' :=
    fun {σ' H' v u} J rv q => ⟨v, H', J.os, J.bare, J.base, J.hok, rv, q⟩
  cases fl with
  | ret u =>
    obtain ⟨v, σ', H', J, rv, q⟩ := hs
    exact fin J rv q
  | next =>
    obtain ⟨σ', H', J, q⟩ := hs
    exact fin (v := V.non) (u := Value.none) J rfl q
  | brk =>
    obtain ⟨_, _, _, q⟩ := hs
    exact False.elim q
  | cont =>
    obtain ⟨_, _, _, q⟩ := hs
    exact False.elim q
section
variable {X : Cx} {CX : CXT} {k : Nat} {f C : Addr} {fd : FuncData} {ps : List Str} {sp : Sp} {E : St → XK} {x m : Str} {q pos apos : Pos} {e o : Expr} {es : List Expr} {ta : TE} {t : TA}
theorem run_fnF {pins : List (Addr × Obj)} {σ : St} {H : Hp} {s : Shared} {Q : VK} {us : List Value} {vs : List V} (F : FnF X.prog X.w X.K X.mg X.base CX k f fd ps sp) (hr : RoomH k X.A) (hb : Binds X.K fd ps []) (hx : PassesAt CX X σ (E σ))
    (I : Inv X pins σ H s) (r : Vals vs us) (h : sp vs H Q (E σ)) : wpAny (model X.prog X.w) X.A (call (.ref f) us) (EP X pins σ Q) X.xe s := by
  have hl : us.length = ps.length := by rw [← r.length]; exact F.len _ _ _ _ h
  have b := hb s us I.kIn (by rw [List.append_nil]; exact hl)
  rw [List.append_nil] at b
  refine wpAny_call (codeAny_mono (F.run X.A X.stack s H ⟨us, []⟩ us vs Q (E σ) hr I.env0 b r h) fun r s' hq => ?_)
  cases r with
  | error e => exact hx pins H s e s' I hq
  | ok fl =>
    cases fl with
    | ret u => exact I.after hq
    | next => exact False.elim hq
    | brk => exact False.elim hq
    | cont => exact False.elim hq
theorem pe_callF (F : FnF X.prog X.w X.K X.mg X.base CX k f fd ps sp) (hr : RoomH k X.A) (hg : Gl X x) (hm : X.mg x = some (.ref f)) (hk : PySem.W.keepIn X.K (.ref f) = true) (hb : Binds X.K fd ps []) (hx : ∀ σ, PassesAt CX X σ (E σ))
    (ha : PA X (e :: es) t) (hdb : (x == ("__debug__" : Str)) = false := by decide) (he : starEach (e :: es) X.env = (false, eval e X.env) :: starEach es X.env := by rfl) (hpl : (backTo pos (starEach es X.env)).any (·.1) = false := by rfl) :
    PE X (.Call (.Name x q) (e :: es) [] pos) (tCallS sp E t) := by
  refine ⟨fun pins s σ H Q I h => ?_⟩
  refine wpAny_Call_Name_kw (ld_glob I hg hm ?_ hdb)
  refine PySem.W.callWith_K (h₀ := X.base) I.ok.mod.kin hk (thn (ha.run pos pins s σ H _ I h) fun us s1 ⟨vs, H1, I1, r, q⟩ => ⟨I1.kIn, ?_⟩) he hpl
  exact run_fnF F hr hb (hx σ) I1 r q
end
end L2
namespace Dl
open PySem PySem.Spec PyProof.Rows L2 L2H
def FnXF (P : Program) (w : World) (K : PySem.W.Frag) (mg : MG) (base : Heap) (x : Str) (k : Nat) (ps : List Str) (F : DF) : Prop :=
  ∃ fd, FnF P w K mg base (L2.CX P w) k (He.ga K x) fd ps (spF K mg ps.length F) ∧ Binds K fd ps [] ∧ mg x = some (.ref (He.ga K x)) ∧ PySem.W.keepIn K (.ref (He.ga K x)) = true
section
variable {P : Program} {w : World} {K : PySem.W.Frag} {mg : MG} {base : Heap}
theorem fn_okF {x qual : Str} {params : Arguments} {body : List Stmt} {scope : Scope} {f : Addr} {fd : FuncData} {N ps : List Str} {k n : Nat} {b : DS} (F : FunD K x qual params body scope [] [] f fd) (S : FnScope N ps scope) (hn : N.length = n)
    (hbody : ∀ (cdv : Value) (A : Around) (outer : List Env) (s : Shared) (H : Hp) (E : XK), RoomH k (A.deeper (PyProof.Rows.envOfC qual scope s.heap.objs.size f cdv)) →
      PSsd (cxF (L2.CX P w) P w K mg base N qual scope f cdv A outer s H E) (WF E) body b) : FnF P w K mg base (L2.CX P w) (k + 1) f fd ps (spF K mg ps.length (runF n b)) := by
  subst hn
  obtain ⟨oc, od, dV, kV, doc, pm, an, cdv, ct, osl, rfl, lk, hcd, _, _⟩ := F.ex
  refine fn_ofF lk hcd S (fun vs H Q E ⟨ρ, ds, G, s, r, e, _⟩ => by rw [← e, r.length]) fun A outer s H vs Q E hr ⟨ρ, ds, G, rs, r, _, h⟩ => ?_
  refine ⟨_, hbody cdv A outer s H E hr, ρ, _, G, start_ct rs r, ?_⟩
  show SPst K mg (WF E) ρ H (b (ds.map some ++ List.replicate (N.length - ds.length) none) G) _
  unfold runF at h
  cases q : b (ds.map some ++ List.replicate (N.length - ds.length) none) G with
  | nx σ G' =>
    rw [q] at h
    intro ρ' H' σ' e c
    obtain ⟨ρ2, G2, d2, e2, s2, r2, h2⟩ := finish_ok (R := RD K) (d := D.non) (v := V.non) (fun f n d' hf q r => RD.sub hf q r) rs e c.rs (by simp only [RD]) h
    exact h2 ρ2 H' _ e2 s2 r2
  | ret d G' =>
    rw [q] at h
    intro ρ' H' v e s' rv
    obtain ⟨ρ2, G2, d2, e2, s2, r2, h2⟩ := finish_ok (R := RD K) (v := v) (fun f n d' hf q r => RD.sub hf q r) rs e s' rv h
    exact h2 ρ2 H' _ e2 s2 r2
  | brk σ G' => rw [q] at h; exact h.elim
  | cont σ G' => rw [q] at h; exact h.elim
  | bad => rw [q] at h; exact h.elim
  | exc c fs σ G' =>
    rw [q] at h
    intro ρ' H' σ' C dx e ct g x
    obtain ⟨ρ2, G2, d2, e2, s2, r2, h2⟩ := finish_ok (R := fun ρ H fs (_ : Unit) => RX K ρ H dx fs) (v := ()) (fun f n fs' hf q r => by
      cases dx with
      | none =>
        have r : fs = [] := r
        subst r
        simp [subF, subDs] at q
        exact q
      | some dx =>
      obtain ⟨fvs, r1, r2, r3, r4⟩ := r
      unfold subF at q
      rw [Option.map_eq_some_iff] at q
      obtain ⟨es, q1, rfl⟩ := q
      have r5 := RDs.sub hf q1 r4
      have hl : es.length = fs.length := by
        have := congrArg List.length r3
        simp at this
        have := r5.length
        simp at this
        omega
      obtain ⟨z1, z2⟩ := zip_unzip fs es hl
      exact ⟨fvs, r1, fun z => r2 (List.mem_of_mem_take z), by rw [z1]; exact r3, by rw [z2]; exact r5⟩) rs e ct.rs x h
    exact h2 ρ2 H' C dx e2 s2 g r2
theorem fnXF {x qual : Str} {params : Arguments} {body : List Stmt} {scope : Scope} {N ps : List Str} {k n : Nat} {b : DS}
    (F : ∃ fd, FunD K x qual params body scope [] [] (He.ga K x) fd) (g : mg x = some (.ref (He.ga K x))) (S : FnScope N ps scope) (hn : N.length = n)
    (hb : ∀ (kV doc pm : Value) (an : Option Addr) (cdv ct : Value) (us : List Value), us.length = ps.length → bindArgs (PySem.W.fnOf x qual params body scope .none kV doc pm an cdv ct) ⟨us, []⟩ = pure (ps.zip us))
    (hbody : ∀ (f : Addr) (cdv : Value) (A : Around) (outer : List Env) (s : Shared) (H : Hp) (E : XK), RoomH k (A.deeper (PyProof.Rows.envOfC qual scope s.heap.objs.size f cdv)) →
      PSsd (cxF (L2.CX P w) P w K mg base N qual scope f cdv A outer s H E) (WF E) body b) : FnXF P w K mg base x (k + 1) ps (runF n b) := by
  obtain ⟨fd, F⟩ := F
  exact ⟨fd, fn_okF F S hn fun cdv A outer s H E hr => hbody _ cdv A outer s H E hr, F.bindsN hb, g, F.kp⟩
end
section
variable {X : Cx} {W : WX} {k : Nat} {ps : List Str} {F : DF} {x : Str} {p pos : Pos} {e : Expr} {es : List Expr} {da : DA}
theorem le_callXF (G : FnXF X.prog X.w X.K X.mg X.base x k ps F) (tk : Takes X W) (hr : RoomH k X.A) (hg : Gl X x)
    (ha : PAd X W (e :: es) da) (hn : ∀ σ G xs G', da σ G = .ok xs G' → xs.length = ps.length) (hdb : (x == ("__debug__" : Str)) = false := by decide) (he : starEach (e :: es) X.env = (false, eval e X.env) :: starEach es X.env := by rfl) (hpl : (backTo pos (starEach es X.env)).any (·.1) = false := by rfl) :
    PEd X W (.Call (.Name x p) (e :: es) [] pos) (eCall F da) := by
  obtain ⟨fd, G, hb, hm, hk⟩ := G
  refine (pe_callF G hr hg hm hk hb (fun σ => passAt tk σ) ha hdb he hpl).le fun σ H Q ⟨ρ, σd, Gs, c, h⟩ => ?_
  refine ⟨ρ, σd, Gs, c, (EP'.bind h).mono fun _ H1 _ _ _ _ _ _ _ ⟨ρ1, G1, a, e1, s1, d1, q1, h1⟩ => ?_⟩
  exact ⟨ρ1, a, G1, s1, d1, hn _ _ _ _ q1, h1⟩
end
theorem _root_.L2H.RoomH.units {k : Nat} {A : Around} (r : RoomH k A) : A.units + 64 < cLine := by have := r.un; omega
theorem _root_.L2.Room.un0 {k : Nat} {A : Around} (r : Room k A) : A.units < cLine := by have := r.un; omega
/-- <= of tuples of whole numbers -/
def cLeT : D → D → GS → RE D := fun x y G => match x, y with
  | .tup a, .tup b => match intsD a, intsD b with
    | some ns, some ms => .ok (.bl (lexLeI ns ms)) G
    | _, _ => .bad
  | _, _ => .bad
theorem lexAt_shift (e r : Nat → Bool) (z : Bool) : ∀ (n i : Nat), Ob.lexAt e r z (i + 1) n = Ob.lexAt (fun j => e (j + 1)) (fun j => r (j + 1)) z i n
  | 0, i => rfl
  | n + 1, i => by rw [Ob.lexAt_succ, Ob.lexAt_succ, lexAt_shift e r z n (i + 1)]
theorem lexAt_le : ∀ (ns ms : List Int), Ob.lexAt (fun j => decide (ns.getD j 0 = ms.getD j 0)) (fun j => decide (ns.getD j 0 ≤ ms.getD j 0)) (decide (ns.length ≤ ms.length)) 0 (min ns.length ms.length) = lexLeI ns ms
  | [], ms => by simp [Ob.lexAt, lexLeI]
  | x :: ns, [] => by simp [Ob.lexAt, lexLeI]
  | x :: ns, y :: ms => by
    have ih := lexAt_le ns ms
    rw [List.length_cons, List.length_cons, show min (ns.length + 1) (ms.length + 1) = min ns.length ms.length + 1 by omega, Ob.lexAt_succ, lexAt_shift]
    simp only [List.getD_cons_succ, List.getD_cons_zero, lexLeI]
    rw [show decide (ns.length + 1 ≤ ms.length + 1) = decide (ns.length ≤ ms.length) by simp, ih]
    simp
section
variable {X : Cx} {W : WX}
theorem sv_leT : Srv2 X (rLeT X.K) cLeT := by
  intro W ρ G H x y dx dy Q s rx ry q
  unfold cLeT at q
  split at q
  · rename_i a b
    split at q
    · rename_i ns ms e1 e2
      obtain ⟨p1, v1, rfl, t1, r1⟩ := rx
      obtain ⟨p2, v2, rfl, t2, r2⟩ := ry
      have h1 := intsD_is e1 r1
      have h2 := intsD_is e2 r2
      subst h1 h2
      refine ⟨p1, p2, ns, ms, rfl, rfl, t1.sq, t2.sq, ?_⟩
      rw [lexAt_le]
      exact now q s rfl
    · exact q.elim
  · exact q.elim
end
theorem cLeT_ints {ns ms : List Int} {G : GS} : cLeT (.tup (ns.map D.int)) (.tup (ms.map D.int)) G = .ok (.bl (lexLeI ns ms)) G := by
  unfold cLeT
  simp only [intsD_ints]
end Dl
/-! f-strings -/
namespace Dl
open PySem PySem.Spec PyProof.Rows L2
def fmtV (x : D) (G : GS) : RE D := match x with
  | .str s => if s.length ≤ maxLine then .ok (.str s) G else .bad
  | .int i => if i.natAbs.log2 < 1920 then .ok (.str (strI i)) G else .bad
  | _ => .bad
def fmtD (d : DE) : DE := fun σ G => bindE (d σ G) fmtV
def jsD : List DE → List Nat → DE
  | [], acc => fun _ G => .ok (.str acc) G
  | d :: r, acc => fun σ G => bindE (d σ G) fun x G1 => match x with
    | .str y => if acc.length + y.length ≤ maxLine then jsD r (acc ++ y) σ G1 else .bad
    | _ => .bad
section
variable {X : Cx} {W : WX}
theorem le_fmt {e : Expr} {d : DE} {pos : Pos} (he : PEd X W e d) : PEd X W (.FormattedValue e (-1) none pos) (fmtD d) := by
  refine (pe_fmt he).le fun σ H Q ⟨ρ, σd, G, c, h⟩ => ⟨ρ, σd, G, c, (EP'.bind h).mono fun _ H1 _ _ v1 _ _ _ _ ⟨ρ1, G1, a1, e1, s1, d1, _, h1⟩ => ?_⟩
  unfold fmtV at h1
  split at h1
  · rename_i s
    cases (show _ = _ from d1)
    split at h1
    · rename_i hl
      exact .inl ⟨_, rfl, by rw [S_len, ← maxLine_eq]; exact hl, now h1 s1 rfl⟩
    · exact h1.elim
  · rename_i i
    cases (show _ = _ from d1)
    split at h1
    · rename_i hl
      exact .inr ⟨_, rfl, hl, now h1 s1 (by show _ = V.str (S (strI _)); unfold strI; rw [S_back])⟩
    · exact h1.elim
  · exact h1.elim
theorem js_ok : ∀ (ds : List DE) (acc : List Nat) {σ : L2.St} {H : Hp} {Q : VK}, tE X.K X.mg W (jsD ds acc) σ H Q → tJs (ds.map fun d => tE X.K X.mg W d) (S acc) σ H fun out H1 => Q (.str out) H1
  | [], acc, σ, H, Q, ⟨ρ, σd, G, c, h⟩ => now h c.rs rfl
  | d :: ds, acc, σ, H, Q, ⟨ρ, σd, G, c, h⟩ => by
    refine ⟨ρ, σd, G, c, (EP'.bind h).mono fun _ H1 _ _ v1 _ _ _ _ ⟨ρ1, G1, a1, e1, s1, d1, _, h1⟩ => ?_⟩
    split at h1
    · rename_i y
      cases (show _ = _ from d1)
      split at h1
      · rename_i hl
        refine ⟨_, rfl, by rw [S_app, S_len, List.length_append, ← maxLine_eq]; exact hl, ?_⟩
        rw [S_app]
        exact js_ok ds _ (Q := Q) ⟨ρ1, σd, G1, c.ext e1 s1, h1⟩
      · exact h1.elim
    · exact h1.elim
theorem le_js {v1 v2 : Expr} {rest : List Expr} {ds : List DE} {pos : Pos} (h : PJ X (v1 :: v2 :: rest) (ds.map fun d => tE X.K X.mg W d)) : PEd X W (.JoinedStr (v1 :: v2 :: rest) pos) (jsD ds []) :=
  (pe_joined h).le fun σ H Q q => js_ok ds [] q
theorem pj_nil : PJ X [] (([] : List DE).map fun d => tE X.K X.mg W d) := .nil
theorem pj_cons {e : Expr} {d : DE} {es : List Expr} {ds : List DE} (h : PEd X W e d) (r : PJ X es (ds.map fun d => tE X.K X.mg W d)) : PJ X (e :: es) ((d :: ds).map fun d => tE X.K X.mg W d) := .cons h r
end
theorem wE_fmt {d : DE} {σ : PEnv} {G : GS} {E : EK} {Q : D → GS → Prop} : wE (fmtD d σ G) E Q = wE (d σ G) E fun x G1 => wE (fmtV x G1) E Q := by
  unfold fmtD; rw [wE_bind]
theorem fmtV_str {s : List Nat} {G : GS} : fmtV (.str s) G = if s.length ≤ maxLine then .ok (.str s) G else .bad := rfl
theorem fmtV_int {i : Int} {G : GS} (h : i.natAbs.log2 < 1920) : fmtV (.int i) G = .ok (.str (strI i)) G := by unfold fmtV; simp only; rw [if_pos h]
theorem wE_jsN {acc : List Nat} {σ : PEnv} {G : GS} {E : EK} {Q : D → GS → Prop} : wE (jsD [] acc σ G) E Q = Q (.str acc) G := id rfl
def jsW (x : D) (k : List Nat → Prop) : Prop := match x with | .str y => k y | _ => False
theorem jsW_str {y : List Nat} {k : List Nat → Prop} : jsW (.str y) k = k y := id rfl
theorem wE_jsC {d : DE} {r : List DE} {acc : List Nat} {σ : PEnv} {G : GS} {E : EK} {Q : D → GS → Prop} : wE (jsD (d :: r) acc σ G) E Q = wE (d σ G) E fun x G1 => jsW x fun y => acc.length + y.length ≤ maxLine ∧ wE (jsD r (acc ++ y) σ G1) E Q := by
  show wE (bindE _ _) E Q = _
  rw [wE_bind]
  refine wE_ext fun x G1 => ?_
  unfold jsW
  cases x <;> first | rfl | skip
  rename_i y
  simp only
  by_cases h : acc.length + y.length ≤ maxLine
  · rw [if_pos h]; simp [h]
  · rw [if_neg h]; simp [h, wE]
end Dl
namespace K05
open PySem L2 Dl
/-! the text -/
def top (i : Nat) : Stmt := PySem.Challenge.pw_latestart_k05_written_bills.main.body.getD i (.Pass ⟨0, 0, 0, 0⟩)
def d_part_text : He.DefD := ⟨("part_text", none), "part_text", "part_text", defArgs (top 3), defBody (top 3), defScope (top 3), [], []⟩
def d_line_of : He.DefD := ⟨("line_of", none), "line_of", "line_of", defArgs (top 2), defBody (top 2), defScope (top 2), [], []⟩
def d_write_bill : He.DefD := ⟨("write_bill", none), "write_bill", "write_bill", defArgs (top 1), defBody (top 1), defScope (top 1), [], []⟩
def d_end_of_run : He.DefD := ⟨("end_of_run", none), "end_of_run", "end_of_run", defArgs (top 15), defBody (top 15), defScope (top 15), [], []⟩
def d_string_at : He.DefD := ⟨("string_at", none), "string_at", "string_at", defArgs (top 14), defBody (top 14), defScope (top 14), [], []⟩
def d_is_number : He.DefD := ⟨("is_number", none), "is_number", "is_number", defArgs (top 17), defBody (top 17), defScope (top 17), [], []⟩
def d_kind_of : He.DefD := ⟨("kind_of", none), "kind_of", "kind_of", defArgs (top 16), defBody (top 16), defScope (top 16), [], []⟩
def d_tokens : He.DefD := ⟨("tokens", none), "tokens", "tokens", defArgs (top 13), defBody (top 13), defScope (top 13), [], []⟩
def d_LineReader____init__ : He.DefD := ⟨("LineReader", some "__init__"), "__init__", "LineReader.__init__", defArgs (L2.inClass (top 24) 0), defBody (L2.inClass (top 24) 0), defScope (L2.inClass (top 24) 0), [], []⟩
def d_LineReader__token : He.DefD := ⟨("LineReader", some "token"), "token", "LineReader.token", defArgs (L2.inClass (top 24) 1), defBody (L2.inClass (top 24) 1), defScope (L2.inClass (top 24) 1), [], []⟩
def d_LineReader__step : He.DefD := ⟨("LineReader", some "step"), "step", "LineReader.step", defArgs (L2.inClass (top 24) 2), defBody (L2.inClass (top 24) 2), defScope (L2.inClass (top 24) 2), [], []⟩
def d_LineReader__take_name : He.DefD := ⟨("LineReader", some "take_name"), "take_name", "LineReader.take_name", defArgs (L2.inClass (top 24) 4), defBody (L2.inClass (top 24) 4), defScope (L2.inClass (top 24) 4), [], []⟩
def d_LineReader__take_token : He.DefD := ⟨("LineReader", some "take_token"), "take_token", "LineReader.take_token", defArgs (L2.inClass (top 24) 3), defBody (L2.inClass (top 24) 3), defScope (L2.inClass (top 24) 3), [], []⟩
def d_LineReader__take_number : He.DefD := ⟨("LineReader", some "take_number"), "take_number", "LineReader.take_number", defArgs (L2.inClass (top 24) 5), defBody (L2.inClass (top 24) 5), defScope (L2.inClass (top 24) 5), [], []⟩
def d_read_part : He.DefD := ⟨("read_part", none), "read_part", "read_part", defArgs (top 29), defBody (top 29), defScope (top 29), [], []⟩
def d_read_parts : He.DefD := ⟨("read_parts", none), "read_parts", "read_parts", defArgs (top 28), defBody (top 28), defScope (top 28), [], []⟩
def d_LineReader__take_end : He.DefD := ⟨("LineReader", some "take_end"), "take_end", "LineReader.take_end", defArgs (L2.inClass (top 24) 6), defBody (L2.inClass (top 24) 6), defScope (L2.inClass (top 24) 6), [], []⟩
def d_read_row : He.DefD := ⟨("read_row", none), "read_row", "read_row", defArgs (top 27), defBody (top 27), defScope (top 27), [], []⟩
def d_read_rows : He.DefD := ⟨("read_rows", none), "read_rows", "read_rows", defArgs (top 26), defBody (top 26), defScope (top 26), [], []⟩
def d_parts_within : He.DefD := ⟨("parts_within", none), "parts_within", "parts_within", defArgs (top 32), defBody (top 32), defScope (top 32), [], []⟩
def d_check_loops : He.DefD := ⟨("check_loops", none), "check_loops", "check_loops", defArgs (top 31), defBody (top 31), defScope (top 31), [], []⟩
def d_numbered_parts : He.DefD := ⟨("numbered_parts", none), "numbered_parts", "numbered_parts", defArgs (top 30), defBody (top 30), defScope (top 30), [], []⟩
def d_read_bill : He.DefD := ⟨("read_bill", none), "read_bill", "read_bill", defArgs (top 25), defBody (top 25), defScope (top 25), [], []⟩
def d__law_cell : He.DefD := ⟨("_law_cell", none), "_law_cell", "_law_cell", defArgs (top 34), defBody (top 34), defScope (top 34), [], []⟩
def d__law_digits : He.DefD := ⟨("_law_digits", none), "_law_digits", "_law_digits", defArgs (top 35), defBody (top 35), defScope (top 35), [], []⟩
def d__law_draw : He.DefD := ⟨("_law_draw", none), "_law_draw", "_law_draw", defArgs (top 36), defBody (top 36), defScope (top 36), [], []⟩
def d__law_same : He.DefD := ⟨("_law_same", none), "_law_same", "_law_same", defArgs (top 37), defBody (top 37), defScope (top 37), [], []⟩
def d__law_run : He.DefD := ⟨("_law_run", none), "_law_run", "_law_run", defArgs (top 38), defBody (top 38), defScope (top 38), [], []⟩
def d__law_name : He.DefD := ⟨("_law_name", none), "_law_name", "_law_name", defArgs (top 39), defBody (top 39), defScope (top 39), [], []⟩
def d__law_bill : He.DefD := ⟨("_law_bill", none), "_law_bill", "_law_bill", defArgs (top 40), defBody (top 40), defScope (top 40), [], []⟩
def d__law_text : He.DefD := ⟨("_law_text", none), "_law_text", "_law_text", defArgs (top 41), defBody (top 41), defScope (top 41), [], []⟩
def d_law : He.DefD := ⟨("law", none), "law", "law", defArgs (top 42), defBody (top 42), defScope (top 42), [], []⟩
def d_BillFault____init__ : He.DefD := ⟨("BillFault", some "__init__"), "__init__", "BillFault.__init__", defArgs (L2.inClass (top 6) 0), defBody (L2.inClass (top 6) 0), defScope (L2.inClass (top 6) 0), [], []⟩
def fn : List He.DefD := [d_part_text, d_line_of, d_write_bill, d_end_of_run, d_string_at, d_is_number, d_kind_of, d_tokens, d_LineReader____init__, d_LineReader__token, d_LineReader__step, d_LineReader__take_name, d_LineReader__take_token, d_LineReader__take_number, d_read_part, d_read_parts, d_LineReader__take_end, d_read_row, d_read_rows, d_parts_within, d_check_loops, d_numbered_parts, d_read_bill, d__law_cell, d__law_digits, d__law_draw, d__law_same, d__law_run, d__law_name, d__law_bill, d__law_text, d_law, d_BillFault____init__]
def fa : List He.Fa := [.free "len", .free "int", .free "enumerate", .free "tuple", .free "range", .free "isinstance", .free "list", .free "bool", .free "str", .str "LETTERS" "abcdefghijklmnopqrstuvwxyz", .str "DIGITS" "0123456789", .int "MOST_DIGITS" 4, .int "MOST_LETTERS" 12, .str "SIGNS" ":,;", .int "MOST_QUANTITY" 20, .int "MOST_PARTS" 4, .int "MOST_LEAD" 10, .int "MOST_LOT" 50, .int "MOST_ITEMS" 8, .glo "part_text", .glo "line_of", .glo "write_bill", .glo "end_of_run", .glo "string_at", .glo "is_number", .glo "kind_of", .glo "tokens", .glo "read_part", .glo "read_parts", .glo "read_row", .glo "read_rows", .glo "parts_within", .glo "check_loops", .glo "numbered_parts", .glo "read_bill", .glo "_law_cell", .glo "_law_digits", .glo "_law_draw", .glo "_law_same", .glo "_law_run", .glo "_law_name", .glo "_law_bill", .glo "_law_text", .glo "law", .glo "LineReader", .cls "LineReader", .noat "LineReader" "line", .noat "LineReader" "found", .noat "LineReader" "at", .meth "LineReader" "token", .meth "LineReader" "step", .meth "LineReader" "take_number", .meth "LineReader" "take_name", .meth "LineReader" "take_token", .meth "LineReader" "take_end", .glo "BillFault", .noat "BillFault" "line", .noat "BillFault" "place", .noat "BillFault" "word", .mkr "LineReader"]
def exB (K : PySem.W.Frag) : Bool := oexB K "BillFault"
def Tx (K : PySem.W.Frag) (mg : MG) : Prop := ∃ (w : World) (h : Heap), K.In h ∧ h.Ns mainGlobals mg ∧ He.SaysX fa fn [] [] exB w h K
section
variable {K : PySem.W.Frag} {mg : MG}
theorem Tx.free_len (T : Tx K mg) : mg "len" = none := by
  obtain ⟨w, h, X, G, c⟩ := T
  have c := c.t.d
  exact He.free_ok X G (c.fact 0)
theorem Tx.free_int (T : Tx K mg) : mg "int" = none := by
  obtain ⟨w, h, X, G, c⟩ := T
  have c := c.t.d
  exact He.free_ok X G (c.fact 1)
theorem Tx.free_enumerate (T : Tx K mg) : mg "enumerate" = none := by
  obtain ⟨w, h, X, G, c⟩ := T
  have c := c.t.d
  exact He.free_ok X G (c.fact 2)
theorem Tx.free_tuple (T : Tx K mg) : mg "tuple" = none := by
  obtain ⟨w, h, X, G, c⟩ := T
  have c := c.t.d
  exact He.free_ok X G (c.fact 3)
theorem Tx.free_range (T : Tx K mg) : mg "range" = none := by
  obtain ⟨w, h, X, G, c⟩ := T
  have c := c.t.d
  exact He.free_ok X G (c.fact 4)
theorem Tx.free_isinstance (T : Tx K mg) : mg "isinstance" = none := by
  obtain ⟨w, h, X, G, c⟩ := T
  have c := c.t.d
  exact He.free_ok X G (c.fact 5)
theorem Tx.free_list (T : Tx K mg) : mg "list" = none := by
  obtain ⟨w, h, X, G, c⟩ := T
  have c := c.t.d
  exact He.free_ok X G (c.fact 6)
theorem Tx.free_bool (T : Tx K mg) : mg "bool" = none := by
  obtain ⟨w, h, X, G, c⟩ := T
  have c := c.t.d
  exact He.free_ok X G (c.fact 7)
theorem Tx.free_str (T : Tx K mg) : mg "str" = none := by
  obtain ⟨w, h, X, G, c⟩ := T
  have c := c.t.d
  exact He.free_ok X G (c.fact 8)
theorem Tx.con_LETTERS (T : Tx K mg) : ∃ t, mg "LETTERS" = some (.str "abcdefghijklmnopqrstuvwxyz" t) := by
  obtain ⟨w, h, X, G, c⟩ := T
  have c := c.t.d
  exact He.str_ok X G (c.fact 9)
theorem Tx.con_DIGITS (T : Tx K mg) : ∃ t, mg "DIGITS" = some (.str "0123456789" t) := by
  obtain ⟨w, h, X, G, c⟩ := T
  have c := c.t.d
  exact He.str_ok X G (c.fact 10)
theorem Tx.con_MOST_DIGITS (T : Tx K mg) : ∃ t, mg "MOST_DIGITS" = some (.int 4 t) := by
  obtain ⟨w, h, X, G, c⟩ := T
  have c := c.t.d
  exact He.int_ok X G (c.fact 11)
theorem Tx.con_MOST_LETTERS (T : Tx K mg) : ∃ t, mg "MOST_LETTERS" = some (.int 12 t) := by
  obtain ⟨w, h, X, G, c⟩ := T
  have c := c.t.d
  exact He.int_ok X G (c.fact 12)
theorem Tx.con_SIGNS (T : Tx K mg) : ∃ t, mg "SIGNS" = some (.str ":,;" t) := by
  obtain ⟨w, h, X, G, c⟩ := T
  have c := c.t.d
  exact He.str_ok X G (c.fact 13)
theorem Tx.con_MOST_QUANTITY (T : Tx K mg) : ∃ t, mg "MOST_QUANTITY" = some (.int 20 t) := by
  obtain ⟨w, h, X, G, c⟩ := T
  have c := c.t.d
  exact He.int_ok X G (c.fact 14)
theorem Tx.con_MOST_PARTS (T : Tx K mg) : ∃ t, mg "MOST_PARTS" = some (.int 4 t) := by
  obtain ⟨w, h, X, G, c⟩ := T
  have c := c.t.d
  exact He.int_ok X G (c.fact 15)
theorem Tx.con_MOST_LEAD (T : Tx K mg) : ∃ t, mg "MOST_LEAD" = some (.int 10 t) := by
  obtain ⟨w, h, X, G, c⟩ := T
  have c := c.t.d
  exact He.int_ok X G (c.fact 16)
theorem Tx.con_MOST_LOT (T : Tx K mg) : ∃ t, mg "MOST_LOT" = some (.int 50 t) := by
  obtain ⟨w, h, X, G, c⟩ := T
  have c := c.t.d
  exact He.int_ok X G (c.fact 17)
theorem Tx.con_MOST_ITEMS (T : Tx K mg) : ∃ t, mg "MOST_ITEMS" = some (.int 8 t) := by
  obtain ⟨w, h, X, G, c⟩ := T
  have c := c.t.d
  exact He.int_ok X G (c.fact 18)
theorem Tx.glo_part_text (T : Tx K mg) : mg "part_text" = some (.ref (He.ga K "part_text")) := by
  obtain ⟨w, h, X, G, c⟩ := T
  have c := c.t.d
  exact He.glo_ok X G (c.fact 19)
theorem Tx.glo_line_of (T : Tx K mg) : mg "line_of" = some (.ref (He.ga K "line_of")) := by
  obtain ⟨w, h, X, G, c⟩ := T
  have c := c.t.d
  exact He.glo_ok X G (c.fact 20)
theorem Tx.glo_write_bill (T : Tx K mg) : mg "write_bill" = some (.ref (He.ga K "write_bill")) := by
  obtain ⟨w, h, X, G, c⟩ := T
  have c := c.t.d
  exact He.glo_ok X G (c.fact 21)
theorem Tx.glo_end_of_run (T : Tx K mg) : mg "end_of_run" = some (.ref (He.ga K "end_of_run")) := by
  obtain ⟨w, h, X, G, c⟩ := T
  have c := c.t.d
  exact He.glo_ok X G (c.fact 22)
theorem Tx.glo_string_at (T : Tx K mg) : mg "string_at" = some (.ref (He.ga K "string_at")) := by
  obtain ⟨w, h, X, G, c⟩ := T
  have c := c.t.d
  exact He.glo_ok X G (c.fact 23)
theorem Tx.glo_is_number (T : Tx K mg) : mg "is_number" = some (.ref (He.ga K "is_number")) := by
  obtain ⟨w, h, X, G, c⟩ := T
  have c := c.t.d
  exact He.glo_ok X G (c.fact 24)
theorem Tx.glo_kind_of (T : Tx K mg) : mg "kind_of" = some (.ref (He.ga K "kind_of")) := by
  obtain ⟨w, h, X, G, c⟩ := T
  have c := c.t.d
  exact He.glo_ok X G (c.fact 25)
theorem Tx.glo_tokens (T : Tx K mg) : mg "tokens" = some (.ref (He.ga K "tokens")) := by
  obtain ⟨w, h, X, G, c⟩ := T
  have c := c.t.d
  exact He.glo_ok X G (c.fact 26)
theorem Tx.glo_read_part (T : Tx K mg) : mg "read_part" = some (.ref (He.ga K "read_part")) := by
  obtain ⟨w, h, X, G, c⟩ := T
  have c := c.t.d
  exact He.glo_ok X G (c.fact 27)
theorem Tx.glo_read_parts (T : Tx K mg) : mg "read_parts" = some (.ref (He.ga K "read_parts")) := by
  obtain ⟨w, h, X, G, c⟩ := T
  have c := c.t.d
  exact He.glo_ok X G (c.fact 28)
theorem Tx.glo_read_row (T : Tx K mg) : mg "read_row" = some (.ref (He.ga K "read_row")) := by
  obtain ⟨w, h, X, G, c⟩ := T
  have c := c.t.d
  exact He.glo_ok X G (c.fact 29)
theorem Tx.glo_read_rows (T : Tx K mg) : mg "read_rows" = some (.ref (He.ga K "read_rows")) := by
  obtain ⟨w, h, X, G, c⟩ := T
  have c := c.t.d
  exact He.glo_ok X G (c.fact 30)
theorem Tx.glo_parts_within (T : Tx K mg) : mg "parts_within" = some (.ref (He.ga K "parts_within")) := by
  obtain ⟨w, h, X, G, c⟩ := T
  have c := c.t.d
  exact He.glo_ok X G (c.fact 31)
theorem Tx.glo_check_loops (T : Tx K mg) : mg "check_loops" = some (.ref (He.ga K "check_loops")) := by
  obtain ⟨w, h, X, G, c⟩ := T
  have c := c.t.d
  exact He.glo_ok X G (c.fact 32)
theorem Tx.glo_numbered_parts (T : Tx K mg) : mg "numbered_parts" = some (.ref (He.ga K "numbered_parts")) := by
  obtain ⟨w, h, X, G, c⟩ := T
  have c := c.t.d
  exact He.glo_ok X G (c.fact 33)
theorem Tx.glo_read_bill (T : Tx K mg) : mg "read_bill" = some (.ref (He.ga K "read_bill")) := by
  obtain ⟨w, h, X, G, c⟩ := T
  have c := c.t.d
  exact He.glo_ok X G (c.fact 34)
theorem Tx.glo__law_cell (T : Tx K mg) : mg "_law_cell" = some (.ref (He.ga K "_law_cell")) := by
  obtain ⟨w, h, X, G, c⟩ := T
  have c := c.t.d
  exact He.glo_ok X G (c.fact 35)
theorem Tx.glo__law_digits (T : Tx K mg) : mg "_law_digits" = some (.ref (He.ga K "_law_digits")) := by
  obtain ⟨w, h, X, G, c⟩ := T
  have c := c.t.d
  exact He.glo_ok X G (c.fact 36)
theorem Tx.glo__law_draw (T : Tx K mg) : mg "_law_draw" = some (.ref (He.ga K "_law_draw")) := by
  obtain ⟨w, h, X, G, c⟩ := T
  have c := c.t.d
  exact He.glo_ok X G (c.fact 37)
theorem Tx.glo__law_same (T : Tx K mg) : mg "_law_same" = some (.ref (He.ga K "_law_same")) := by
  obtain ⟨w, h, X, G, c⟩ := T
  have c := c.t.d
  exact He.glo_ok X G (c.fact 38)
theorem Tx.glo__law_run (T : Tx K mg) : mg "_law_run" = some (.ref (He.ga K "_law_run")) := by
  obtain ⟨w, h, X, G, c⟩ := T
  have c := c.t.d
  exact He.glo_ok X G (c.fact 39)
theorem Tx.glo__law_name (T : Tx K mg) : mg "_law_name" = some (.ref (He.ga K "_law_name")) := by
  obtain ⟨w, h, X, G, c⟩ := T
  have c := c.t.d
  exact He.glo_ok X G (c.fact 40)
theorem Tx.glo__law_bill (T : Tx K mg) : mg "_law_bill" = some (.ref (He.ga K "_law_bill")) := by
  obtain ⟨w, h, X, G, c⟩ := T
  have c := c.t.d
  exact He.glo_ok X G (c.fact 41)
theorem Tx.glo__law_text (T : Tx K mg) : mg "_law_text" = some (.ref (He.ga K "_law_text")) := by
  obtain ⟨w, h, X, G, c⟩ := T
  have c := c.t.d
  exact He.glo_ok X G (c.fact 42)
theorem Tx.glo_law (T : Tx K mg) : mg "law" = some (.ref (He.ga K "law")) := by
  obtain ⟨w, h, X, G, c⟩ := T
  have c := c.t.d
  exact He.glo_ok X G (c.fact 43)
theorem Tx.glo_LineReader (T : Tx K mg) : mg "LineReader" = some (.ref (He.ga K "LineReader")) := by
  obtain ⟨w, h, X, G, c⟩ := T
  have c := c.t.d
  exact He.glo_ok X G (c.fact 44)
theorem Tx.cls_LineReader (T : Tx K mg) : Cls K (He.ga K "LineReader") := by
  obtain ⟨w, h, X, G, c⟩ := T
  have c := c.t.d
  exact He.cls_ok (c.fact 45)
theorem Tx.noat_LineReader_line (T : Tx K mg) : NoAttr K (He.ga K "LineReader") "line" := by
  obtain ⟨w, h, X, G, c⟩ := T
  have c := c.t.d
  exact He.noat_ok (c.fact 46)
theorem Tx.noat_LineReader_found (T : Tx K mg) : NoAttr K (He.ga K "LineReader") "found" := by
  obtain ⟨w, h, X, G, c⟩ := T
  have c := c.t.d
  exact He.noat_ok (c.fact 47)
theorem Tx.noat_LineReader_at (T : Tx K mg) : NoAttr K (He.ga K "LineReader") "at" := by
  obtain ⟨w, h, X, G, c⟩ := T
  have c := c.t.d
  exact He.noat_ok (c.fact 48)
theorem Tx.meth_LineReader_token (T : Tx K mg) : Meth K (He.ga K "LineReader") "token" (He.ma K (He.ga K "LineReader") "token") := by
  obtain ⟨w, h, X, G, c⟩ := T
  have c := c.t.d
  exact He.meth_ok (c.fact 49)
theorem Tx.meth_LineReader_step (T : Tx K mg) : Meth K (He.ga K "LineReader") "step" (He.ma K (He.ga K "LineReader") "step") := by
  obtain ⟨w, h, X, G, c⟩ := T
  have c := c.t.d
  exact He.meth_ok (c.fact 50)
theorem Tx.meth_LineReader_take_number (T : Tx K mg) : Meth K (He.ga K "LineReader") "take_number" (He.ma K (He.ga K "LineReader") "take_number") := by
  obtain ⟨w, h, X, G, c⟩ := T
  have c := c.t.d
  exact He.meth_ok (c.fact 51)
theorem Tx.meth_LineReader_take_name (T : Tx K mg) : Meth K (He.ga K "LineReader") "take_name" (He.ma K (He.ga K "LineReader") "take_name") := by
  obtain ⟨w, h, X, G, c⟩ := T
  have c := c.t.d
  exact He.meth_ok (c.fact 52)
theorem Tx.meth_LineReader_take_token (T : Tx K mg) : Meth K (He.ga K "LineReader") "take_token" (He.ma K (He.ga K "LineReader") "take_token") := by
  obtain ⟨w, h, X, G, c⟩ := T
  have c := c.t.d
  exact He.meth_ok (c.fact 53)
theorem Tx.meth_LineReader_take_end (T : Tx K mg) : Meth K (He.ga K "LineReader") "take_end" (He.ma K (He.ga K "LineReader") "take_end") := by
  obtain ⟨w, h, X, G, c⟩ := T
  have c := c.t.d
  exact He.meth_ok (c.fact 54)
theorem Tx.glo_BillFault (T : Tx K mg) : mg "BillFault" = some (.ref (He.ga K "BillFault")) := by
  obtain ⟨w, h, X, G, c⟩ := T
  have c := c.t.d
  exact He.glo_ok X G (c.fact 55)
theorem Tx.noat_BillFault_line (T : Tx K mg) : NoAttr K (He.ga K "BillFault") "line" := by
  obtain ⟨w, h, X, G, c⟩ := T
  have c := c.t.d
  exact He.noat_ok (c.fact 56)
theorem Tx.noat_BillFault_place (T : Tx K mg) : NoAttr K (He.ga K "BillFault") "place" := by
  obtain ⟨w, h, X, G, c⟩ := T
  have c := c.t.d
  exact He.noat_ok (c.fact 57)
theorem Tx.noat_BillFault_word (T : Tx K mg) : NoAttr K (He.ga K "BillFault") "word" := by
  obtain ⟨w, h, X, G, c⟩ := T
  have c := c.t.d
  exact He.noat_ok (c.fact 58)
theorem Tx.mkr_LineReader (T : Tx K mg) : Mk K (He.ga K "LineReader") (He.ma K (He.ga K "LineReader") "__init__") := by
  obtain ⟨w, h, X, G, c⟩ := T
  have c := c.t.d
  exact He.mkr_ok (c.fact 59)
theorem Tx.def_part_text (T : Tx K mg) : ∃ fd, FunD K "part_text" "part_text" (defArgs (top 3)) (defBody (top 3)) (defScope (top 3)) [] [] (He.ga K "part_text") fd := by
  obtain ⟨w, h, X, G, c⟩ := T
  have c := c.t.d
  exact c.def_ 0 (d := d_part_text) rfl
theorem Tx.def_line_of (T : Tx K mg) : ∃ fd, FunD K "line_of" "line_of" (defArgs (top 2)) (defBody (top 2)) (defScope (top 2)) [] [] (He.ga K "line_of") fd := by
  obtain ⟨w, h, X, G, c⟩ := T
  have c := c.t.d
  exact c.def_ 1 (d := d_line_of) rfl
theorem Tx.def_write_bill (T : Tx K mg) : ∃ fd, FunD K "write_bill" "write_bill" (defArgs (top 1)) (defBody (top 1)) (defScope (top 1)) [] [] (He.ga K "write_bill") fd := by
  obtain ⟨w, h, X, G, c⟩ := T
  have c := c.t.d
  exact c.def_ 2 (d := d_write_bill) rfl
theorem Tx.def_end_of_run (T : Tx K mg) : ∃ fd, FunD K "end_of_run" "end_of_run" (defArgs (top 15)) (defBody (top 15)) (defScope (top 15)) [] [] (He.ga K "end_of_run") fd := by
  obtain ⟨w, h, X, G, c⟩ := T
  have c := c.t.d
  exact c.def_ 3 (d := d_end_of_run) rfl
theorem Tx.def_string_at (T : Tx K mg) : ∃ fd, FunD K "string_at" "string_at" (defArgs (top 14)) (defBody (top 14)) (defScope (top 14)) [] [] (He.ga K "string_at") fd := by
  obtain ⟨w, h, X, G, c⟩ := T
  have c := c.t.d
  exact c.def_ 4 (d := d_string_at) rfl
theorem Tx.def_is_number (T : Tx K mg) : ∃ fd, FunD K "is_number" "is_number" (defArgs (top 17)) (defBody (top 17)) (defScope (top 17)) [] [] (He.ga K "is_number") fd := by
  obtain ⟨w, h, X, G, c⟩ := T
  have c := c.t.d
  exact c.def_ 5 (d := d_is_number) rfl
theorem Tx.def_kind_of (T : Tx K mg) : ∃ fd, FunD K "kind_of" "kind_of" (defArgs (top 16)) (defBody (top 16)) (defScope (top 16)) [] [] (He.ga K "kind_of") fd := by
  obtain ⟨w, h, X, G, c⟩ := T
  have c := c.t.d
  exact c.def_ 6 (d := d_kind_of) rfl
theorem Tx.def_tokens (T : Tx K mg) : ∃ fd, FunD K "tokens" "tokens" (defArgs (top 13)) (defBody (top 13)) (defScope (top 13)) [] [] (He.ga K "tokens") fd := by
  obtain ⟨w, h, X, G, c⟩ := T
  have c := c.t.d
  exact c.def_ 7 (d := d_tokens) rfl
theorem Tx.def_LineReader____init__ (T : Tx K mg) : ∃ fd, FunD K "__init__" "LineReader.__init__" (defArgs (L2.inClass (top 24) 0)) (defBody (L2.inClass (top 24) 0)) (defScope (L2.inClass (top 24) 0)) [] [] (He.ma K (He.ga K "LineReader") "__init__") fd := by
  obtain ⟨w, h, X, G, c⟩ := T
  have c := c.t.d
  exact c.def_ 8 (d := d_LineReader____init__) rfl
theorem Tx.def_LineReader__token (T : Tx K mg) : ∃ fd, FunD K "token" "LineReader.token" (defArgs (L2.inClass (top 24) 1)) (defBody (L2.inClass (top 24) 1)) (defScope (L2.inClass (top 24) 1)) [] [] (He.ma K (He.ga K "LineReader") "token") fd := by
  obtain ⟨w, h, X, G, c⟩ := T
  have c := c.t.d
  exact c.def_ 9 (d := d_LineReader__token) rfl
theorem Tx.def_LineReader__step (T : Tx K mg) : ∃ fd, FunD K "step" "LineReader.step" (defArgs (L2.inClass (top 24) 2)) (defBody (L2.inClass (top 24) 2)) (defScope (L2.inClass (top 24) 2)) [] [] (He.ma K (He.ga K "LineReader") "step") fd := by
  obtain ⟨w, h, X, G, c⟩ := T
  have c := c.t.d
  exact c.def_ 10 (d := d_LineReader__step) rfl
theorem Tx.def_LineReader__take_name (T : Tx K mg) : ∃ fd, FunD K "take_name" "LineReader.take_name" (defArgs (L2.inClass (top 24) 4)) (defBody (L2.inClass (top 24) 4)) (defScope (L2.inClass (top 24) 4)) [] [] (He.ma K (He.ga K "LineReader") "take_name") fd := by
  obtain ⟨w, h, X, G, c⟩ := T
  have c := c.t.d
  exact c.def_ 11 (d := d_LineReader__take_name) rfl
theorem Tx.def_LineReader__take_token (T : Tx K mg) : ∃ fd, FunD K "take_token" "LineReader.take_token" (defArgs (L2.inClass (top 24) 3)) (defBody (L2.inClass (top 24) 3)) (defScope (L2.inClass (top 24) 3)) [] [] (He.ma K (He.ga K "LineReader") "take_token") fd := by
  obtain ⟨w, h, X, G, c⟩ := T
  have c := c.t.d
  exact c.def_ 12 (d := d_LineReader__take_token) rfl
theorem Tx.def_LineReader__take_number (T : Tx K mg) : ∃ fd, FunD K "take_number" "LineReader.take_number" (defArgs (L2.inClass (top 24) 5)) (defBody (L2.inClass (top 24) 5)) (defScope (L2.inClass (top 24) 5)) [] [] (He.ma K (He.ga K "LineReader") "take_number") fd := by
  obtain ⟨w, h, X, G, c⟩ := T
  have c := c.t.d
  exact c.def_ 13 (d := d_LineReader__take_number) rfl
theorem Tx.def_read_part (T : Tx K mg) : ∃ fd, FunD K "read_part" "read_part" (defArgs (top 29)) (defBody (top 29)) (defScope (top 29)) [] [] (He.ga K "read_part") fd := by
  obtain ⟨w, h, X, G, c⟩ := T
  have c := c.t.d
  exact c.def_ 14 (d := d_read_part) rfl
theorem Tx.def_read_parts (T : Tx K mg) : ∃ fd, FunD K "read_parts" "read_parts" (defArgs (top 28)) (defBody (top 28)) (defScope (top 28)) [] [] (He.ga K "read_parts") fd := by
  obtain ⟨w, h, X, G, c⟩ := T
  have c := c.t.d
  exact c.def_ 15 (d := d_read_parts) rfl
theorem Tx.def_LineReader__take_end (T : Tx K mg) : ∃ fd, FunD K "take_end" "LineReader.take_end" (defArgs (L2.inClass (top 24) 6)) (defBody (L2.inClass (top 24) 6)) (defScope (L2.inClass (top 24) 6)) [] [] (He.ma K (He.ga K "LineReader") "take_end") fd := by
  obtain ⟨w, h, X, G, c⟩ := T
  have c := c.t.d
  exact c.def_ 16 (d := d_LineReader__take_end) rfl
theorem Tx.def_read_row (T : Tx K mg) : ∃ fd, FunD K "read_row" "read_row" (defArgs (top 27)) (defBody (top 27)) (defScope (top 27)) [] [] (He.ga K "read_row") fd := by
  obtain ⟨w, h, X, G, c⟩ := T
  have c := c.t.d
  exact c.def_ 17 (d := d_read_row) rfl
theorem Tx.def_read_rows (T : Tx K mg) : ∃ fd, FunD K "read_rows" "read_rows" (defArgs (top 26)) (defBody (top 26)) (defScope (top 26)) [] [] (He.ga K "read_rows") fd := by
  obtain ⟨w, h, X, G, c⟩ := T
  have c := c.t.d
  exact c.def_ 18 (d := d_read_rows) rfl
theorem Tx.def_parts_within (T : Tx K mg) : ∃ fd, FunD K "parts_within" "parts_within" (defArgs (top 32)) (defBody (top 32)) (defScope (top 32)) [] [] (He.ga K "parts_within") fd := by
  obtain ⟨w, h, X, G, c⟩ := T
  have c := c.t.d
  exact c.def_ 19 (d := d_parts_within) rfl
theorem Tx.def_check_loops (T : Tx K mg) : ∃ fd, FunD K "check_loops" "check_loops" (defArgs (top 31)) (defBody (top 31)) (defScope (top 31)) [] [] (He.ga K "check_loops") fd := by
  obtain ⟨w, h, X, G, c⟩ := T
  have c := c.t.d
  exact c.def_ 20 (d := d_check_loops) rfl
theorem Tx.def_numbered_parts (T : Tx K mg) : ∃ fd, FunD K "numbered_parts" "numbered_parts" (defArgs (top 30)) (defBody (top 30)) (defScope (top 30)) [] [] (He.ga K "numbered_parts") fd := by
  obtain ⟨w, h, X, G, c⟩ := T
  have c := c.t.d
  exact c.def_ 21 (d := d_numbered_parts) rfl
theorem Tx.def_read_bill (T : Tx K mg) : ∃ fd, FunD K "read_bill" "read_bill" (defArgs (top 25)) (defBody (top 25)) (defScope (top 25)) [] [] (He.ga K "read_bill") fd := by
  obtain ⟨w, h, X, G, c⟩ := T
  have c := c.t.d
  exact c.def_ 22 (d := d_read_bill) rfl
theorem Tx.def__law_cell (T : Tx K mg) : ∃ fd, FunD K "_law_cell" "_law_cell" (defArgs (top 34)) (defBody (top 34)) (defScope (top 34)) [] [] (He.ga K "_law_cell") fd := by
  obtain ⟨w, h, X, G, c⟩ := T
  have c := c.t.d
  exact c.def_ 23 (d := d__law_cell) rfl
theorem Tx.def__law_digits (T : Tx K mg) : ∃ fd, FunD K "_law_digits" "_law_digits" (defArgs (top 35)) (defBody (top 35)) (defScope (top 35)) [] [] (He.ga K "_law_digits") fd := by
  obtain ⟨w, h, X, G, c⟩ := T
  have c := c.t.d
  exact c.def_ 24 (d := d__law_digits) rfl
theorem Tx.def__law_draw (T : Tx K mg) : ∃ fd, FunD K "_law_draw" "_law_draw" (defArgs (top 36)) (defBody (top 36)) (defScope (top 36)) [] [] (He.ga K "_law_draw") fd := by
  obtain ⟨w, h, X, G, c⟩ := T
  have c := c.t.d
  exact c.def_ 25 (d := d__law_draw) rfl
theorem Tx.def__law_same (T : Tx K mg) : ∃ fd, FunD K "_law_same" "_law_same" (defArgs (top 37)) (defBody (top 37)) (defScope (top 37)) [] [] (He.ga K "_law_same") fd := by
  obtain ⟨w, h, X, G, c⟩ := T
  have c := c.t.d
  exact c.def_ 26 (d := d__law_same) rfl
theorem Tx.def__law_run (T : Tx K mg) : ∃ fd, FunD K "_law_run" "_law_run" (defArgs (top 38)) (defBody (top 38)) (defScope (top 38)) [] [] (He.ga K "_law_run") fd := by
  obtain ⟨w, h, X, G, c⟩ := T
  have c := c.t.d
  exact c.def_ 27 (d := d__law_run) rfl
theorem Tx.def__law_name (T : Tx K mg) : ∃ fd, FunD K "_law_name" "_law_name" (defArgs (top 39)) (defBody (top 39)) (defScope (top 39)) [] [] (He.ga K "_law_name") fd := by
  obtain ⟨w, h, X, G, c⟩ := T
  have c := c.t.d
  exact c.def_ 28 (d := d__law_name) rfl
theorem Tx.def__law_bill (T : Tx K mg) : ∃ fd, FunD K "_law_bill" "_law_bill" (defArgs (top 40)) (defBody (top 40)) (defScope (top 40)) [] [] (He.ga K "_law_bill") fd := by
  obtain ⟨w, h, X, G, c⟩ := T
  have c := c.t.d
  exact c.def_ 29 (d := d__law_bill) rfl
theorem Tx.def__law_text (T : Tx K mg) : ∃ fd, FunD K "_law_text" "_law_text" (defArgs (top 41)) (defBody (top 41)) (defScope (top 41)) [] [] (He.ga K "_law_text") fd := by
  obtain ⟨w, h, X, G, c⟩ := T
  have c := c.t.d
  exact c.def_ 30 (d := d__law_text) rfl
theorem Tx.def_law (T : Tx K mg) : ∃ fd, FunD K "law" "law" (defArgs (top 42)) (defBody (top 42)) (defScope (top 42)) [] [] (He.ga K "law") fd := by
  obtain ⟨w, h, X, G, c⟩ := T
  have c := c.t.d
  exact c.def_ 31 (d := d_law) rfl
theorem Tx.def_BillFault____init__ (T : Tx K mg) : ∃ fd, FunD K "__init__" "BillFault.__init__" (defArgs (L2.inClass (top 6) 0)) (defBody (L2.inClass (top 6) 0)) (defScope (L2.inClass (top 6) 0)) [] [] (He.ma K (He.ga K "BillFault") "__init__") fd := by
  obtain ⟨w, h, X, G, c⟩ := T
  have c := c.t.d
  exact c.def_ 32 (d := d_BillFault____init__) rfl
theorem Tx.exc_BillFault (T : Tx K mg) : EXC K "BillFault" := by
  obtain ⟨w, h, X, G, c⟩ := T
  have c := c.more
  unfold exB at c
  exact oexB_ok c
theorem na_line (T : Tx K mg) : NA K mg ["LineReader"] "line" := by
  intro c hc
  simp only [List.mem_cons, List.not_mem_nil, or_false] at hc
  rcases hc with rfl
  · exact ⟨_, T.glo_LineReader, T.cls_LineReader, T.noat_LineReader_line⟩
theorem na_found (T : Tx K mg) : NA K mg ["LineReader"] "found" := by
  intro c hc
  simp only [List.mem_cons, List.not_mem_nil, or_false] at hc
  rcases hc with rfl
  · exact ⟨_, T.glo_LineReader, T.cls_LineReader, T.noat_LineReader_found⟩
theorem na_at (T : Tx K mg) : NA K mg ["LineReader"] "at" := by
  intro c hc
  simp only [List.mem_cons, List.not_mem_nil, or_false] at hc
  rcases hc with rfl
  · exact ⟨_, T.glo_LineReader, T.cls_LineReader, T.noat_LineReader_at⟩
theorem cm_LineReader__token (T : Tx K mg) : CM K mg "LineReader" "token" := ⟨T.glo_LineReader, T.cls_LineReader, T.meth_LineReader_token⟩
theorem cm_LineReader__step (T : Tx K mg) : CM K mg "LineReader" "step" := ⟨T.glo_LineReader, T.cls_LineReader, T.meth_LineReader_step⟩
theorem cm_LineReader__take_number (T : Tx K mg) : CM K mg "LineReader" "take_number" := ⟨T.glo_LineReader, T.cls_LineReader, T.meth_LineReader_take_number⟩
theorem cm_LineReader__take_name (T : Tx K mg) : CM K mg "LineReader" "take_name" := ⟨T.glo_LineReader, T.cls_LineReader, T.meth_LineReader_take_name⟩
theorem cm_LineReader__take_token (T : Tx K mg) : CM K mg "LineReader" "take_token" := ⟨T.glo_LineReader, T.cls_LineReader, T.meth_LineReader_take_token⟩
theorem cm_LineReader__take_end (T : Tx K mg) : CM K mg "LineReader" "take_end" := ⟨T.glo_LineReader, T.cls_LineReader, T.meth_LineReader_take_end⟩
end
section
variable {P : Program} {w : World} {K : PySem.W.Frag} {mg : MG} {base : Heap}
abbrev s_BillFault____init__ : Stmt := L2.inClass (top 6) 0
theorem sc_BillFault____init__ : FnScope ["self", "line", "place", "word"] ["self", "line", "place", "word"] (defScope s_BillFault____init__) := ⟨rfl, rfl, rfl, by decide +kernel, rfl, by decide +kernel, by decide +kernel⟩
theorem ok_exc_BillFault (T : Tx K mg) : FnI P w K mg base "BillFault" ["self", "line", "place", "word"] ["line", "place", "word"] :=
  fnI T.exc_BillFault T.def_BillFault____init__ sc_BillFault____init__ rfl (by decide) (fun f hf => by
    simp only [List.mem_cons, List.not_mem_nil, or_false] at hf
    rcases hf with rfl | rfl | rfl
    · exact T.noat_BillFault_line
    · exact T.noat_BillFault_place
    · exact T.noat_BillFault_word) (fun _ _ _ _ _ _ us hl => match us, hl with | [_, _, _, _], _ => rfl) fun f cdv A outer s H E => (pss_cons (ps_ost (pv 0) (pv 1)) (pss_cons (ps_ost (pv 0) (pv 2)) (pss_cons (ps_ost (pv 0) (pv 3)) pss_nil)))
/-! part_text -/
abbrev s_part_text : Stmt := top 3
theorem sc_part_text : FnScope ["bill", "part", "quantity", "name"] ["bill", "part", "quantity"] (defScope s_part_text) := ⟨rfl, rfl, rfl, by decide +kernel, rfl, by decide +kernel, by decide +kernel⟩
noncomputable def S_part_text_1 : DS :=
 (sAsg 3 (eBin bIxA (eBin bIxA (eVar 0) (eVar 1)) (eCst (.int 0))))
noncomputable def C_part_text_2 : DT :=
 (dT (eBin (cEqB false) (eVar 2) (eCst (.int 1))))
noncomputable def S_part_text_3 : DS :=
 (sRet (eVar 3))
noncomputable def S_part_text_2 : DS :=
 (sIf C_part_text_2
 S_part_text_3
 sNil)
noncomputable def S_part_text_4 : DS :=
 (sRet (jsD [(fmtD (eVar 2)), (eCst (.str (lit " "))), (fmtD (eVar 3))] []))
noncomputable def B_part_text : DS :=
 (sSeq S_part_text_1
 (sSeq S_part_text_2
 S_part_text_4))
noncomputable def F_part_text : DF := runF 4 B_part_text
theorem ok_part_text (T : Tx K mg) : FnX P w K mg base "part_text" 1 ["bill", "part", "quantity"] F_part_text :=
  fnX T.def_part_text T.glo_part_text sc_part_text rfl (fun _ _ _ _ _ _ us hl => match us, hl with | [_, _, _], _ => rfl) fun f cdv A outer s H E hr =>
 (le_seq (le_set (i := 3) sc_part_text.nd (le_ix (ix_any (hu_of hr)) sv_ixA (le_ix (ix_any (hu_of hr)) sv_ixA (le_var 0) (le_var 1) (fun _ _ => rfl)) le_int (fun _ _ => rfl)))
 (le_seq (le_if (le_tcmp (op_eqA hr.units) sv_eq (le_var 2) le_int (nomark _))
 (le_one (le_ret (le_var 3)))
 le_nil)
 (le_one (le_ret (le_js (pj_cons (le_fmt (le_var 2)) (pj_cons le_lit (pj_cons (le_fmt (le_var 3)) pj_nil))))))))
/-! line_of -/
abbrev s_line_of : Stmt := top 2
theorem sc_line_of : FnScope ["bill", "row", "name", "parts", "lead", "lot", "good", "written", "part", "quantity"] ["bill", "row"] (defScope s_line_of) := ⟨rfl, rfl, rfl, by decide +kernel, rfl, by decide +kernel, by decide +kernel⟩
noncomputable def S_line_of_1 : DS :=
 (sAsgG (gT (gsCons (gN 2) (gsCons (gN 3) (gsCons (gN 4) (gsCons (gN 5) (gsCons (gN 6) gsNil)))))) (eVar 1))
noncomputable def S_line_of_2 : DS :=
 (sAsg 7 (eMt isStr mJoin (eCst (.str (lit ", "))) (aCons (eSeal (eLcA (eVar 3) (.tup [8, 9]) dYes (eCall F_part_text (aCons (eVar 0) (aCons (eVar 8) (aCons (eVar 9) aNil)))) [8, 9])) aNil)))
noncomputable def S_line_of_3 : DS :=
 (sRet (jsD [(fmtD (eVar 2)), (eCst (.str (lit ": "))), (fmtD (eVar 7)), (eCst (.str (lit "; "))), (fmtD (eVar 4)), (eCst (.str (lit " days; "))), (fmtD (eVar 5)), (eCst (.str (lit " yields "))), (fmtD (eVar 6)), (eCst (.str (lit "\n")))] []))
noncomputable def B_line_of : DS :=
 (sSeq S_line_of_1
 (sSeq S_line_of_2
 S_line_of_3))
noncomputable def F_line_of : DF := runF 10 B_line_of
theorem ok_line_of (T : Tx K mg) : FnX P w K mg base "line_of" 2 ["bill", "row"] F_line_of :=
  fnX T.def_line_of T.glo_line_of sc_line_of rfl (fun _ _ _ _ _ _ us hl => match us, hl with | [_, _], _ => rfl) fun f cdv A outer s H E hr =>
 (le_seq (le_asgG (le_var 1) (le_gtup rfl (le_gcons (le_gname (i := 2) sc_line_of.nd) (le_gcons (le_gname (i := 3) sc_line_of.nd) (le_gcons (le_gname (i := 4) sc_line_of.nd) (le_gcons (le_gname (i := 5) sc_line_of.nd) (le_gcons (le_gname (i := 6) sc_line_of.nd) le_gnil)))))))
 (le_seq (le_set (i := 7) sc_line_of.nd (le_mt PySem.F.plainAttrs_str PySem.F.slot_str_join PySem.F.type_str_join mt_join knd_str sm_join le_lit (le_acons (le_seal (le_lcA (own := [("part", 8), ("quantity", 9)]) (g := (.tup [8, 9])) rfl sc_line_of.nd (le_var 3) (blkOk_by (N := ["bill", "row", "name", "parts", "lead", "lot", "good", "written", "part", "quantity"]) (sc := defScope s_line_of) (by decide +kernel)) (by decide) (fun _ _ _ _ _ => pg_tup rfl (pgs_cons (pg_name (i := 8) sc_line_of.nd rfl (by first | exact Or.inl rfl | exact Or.inr rfl)) (pgs_cons (pg_name (i := 9) sc_line_of.nd rfl (by first | exact Or.inl rfl | exact Or.inr rfl)) pgs_nil))) (fun _ _ _ _ _ => le_pts0) (fun _ _ _ _ _ => (le_callX (ok_part_text T) takesN (hr.mono (by decide)) (by rfl) (le_acons (le_var 0) (le_acons (le_var 8) (le_acons (le_var 9) le_anil))) (fun _ _ _ _ h => len_cons (fun _ _ _ _ h => len_cons (fun _ _ _ _ h => len_cons (fun _ _ _ _ h => len_nil h) h) h) h))))) le_anil)))
 (le_one (le_ret (le_js (pj_cons (le_fmt (le_var 2)) (pj_cons le_lit (pj_cons (le_fmt (le_var 7)) (pj_cons le_lit (pj_cons (le_fmt (le_var 4)) (pj_cons le_lit (pj_cons (le_fmt (le_var 5)) (pj_cons le_lit (pj_cons (le_fmt (le_var 6)) (pj_cons le_lit pj_nil)))))))))))))))
/-! write_bill -/
abbrev s_write_bill : Stmt := top 1
theorem sc_write_bill : FnScope ["bill", "row"] ["bill"] (defScope s_write_bill) := ⟨rfl, rfl, rfl, by decide +kernel, rfl, by decide +kernel, by decide +kernel⟩
noncomputable def S_write_bill_1 : DS :=
 (sRet (eMt isStr mJoin (eCst (.str (lit ""))) (aCons (eSeal (eLcA (eVar 0) (.one 1) dYes (eCall F_line_of (aCons (eVar 0) (aCons (eVar 1) aNil))) [1])) aNil)))
noncomputable def B_write_bill : DS :=
 S_write_bill_1
noncomputable def F_write_bill : DF := runF 2 B_write_bill
theorem ok_write_bill (T : Tx K mg) : FnX P w K mg base "write_bill" 3 ["bill"] F_write_bill :=
  fnX T.def_write_bill T.glo_write_bill sc_write_bill rfl (fun _ _ _ _ _ _ us hl => match us, hl with | [_], _ => rfl) fun f cdv A outer s H E hr =>
 (le_one (le_ret (le_mt PySem.F.plainAttrs_str PySem.F.slot_str_join PySem.F.type_str_join mt_join knd_str sm_join le_lit (le_acons (le_seal (le_lcA (own := [("row", 1)]) (g := (.one 1)) rfl sc_write_bill.nd (le_var 0) (blkOk_by (N := ["bill", "row"]) (sc := defScope s_write_bill) (by decide +kernel)) (by decide) (fun _ _ _ _ _ => pg_name (i := 1) sc_write_bill.nd rfl (by first | exact Or.inl rfl | exact Or.inr rfl)) (fun _ _ _ _ _ => le_pts0) (fun _ _ _ _ _ => (le_callX (ok_line_of T) takesN (hr.mono (by decide)) (by rfl) (le_acons (le_var 0) (le_acons (le_var 1) le_anil)) (fun _ _ _ _ h => len_cons (fun _ _ _ _ h => len_cons (fun _ _ _ _ h => len_nil h) h) h))))) le_anil))))
/-! end_of_run -/
abbrev s_end_of_run : Stmt := top 15
theorem sc_end_of_run : FnScope ["line", "at", "characters", "end"] ["line", "at", "characters"] (defScope s_end_of_run) := ⟨rfl, rfl, rfl, by decide +kernel, rfl, by decide +kernel, by decide +kernel⟩
noncomputable def S_end_of_run_1 : DS :=
 (sAsg 3 (eVar 1))
noncomputable def S_end_of_run_3 : DS :=
 (sAug 3 bIadd (eCst (.int 1)))
noncomputable def W_end_of_run_2 : DT :=
 (dAnd (dT (eBin cLt (eVar 3) (eApp fLen (aCons (eVar 0) aNil)))) (dT (eBin (cInA false) (eBin bIxA (eVar 0) (eVar 3)) (eVar 2))))
noncomputable def L_end_of_run_2 : DS :=
 S_end_of_run_3
noncomputable def S_end_of_run_2 : DS :=
 (sWhile fuel W_end_of_run_2 L_end_of_run_2)
noncomputable def S_end_of_run_4 : DS :=
 (sRet (eVar 3))
noncomputable def B_end_of_run : DS :=
 (sSeq S_end_of_run_1
 (sSeq S_end_of_run_2
 S_end_of_run_4))
noncomputable def F_end_of_run : DF := runF 4 B_end_of_run
theorem ok_end_of_run (T : Tx K mg) : FnX P w K mg base "end_of_run" 1 ["line", "at", "characters"] F_end_of_run :=
  fnX T.def_end_of_run T.glo_end_of_run sc_end_of_run rfl (fun _ _ _ _ _ _ us hl => match us, hl with | [_, _, _], _ => rfl) fun f cdv A outer s H E hr =>
 (le_seq (le_set (i := 3) sc_end_of_run.nd (le_var 1))
 (le_seq (le_while fuel (passes_of rfl) (L2.PW.pt (le_and (le_tcmp op_lt sv_lt (le_var 3) (le_callB call_len sv_len (by rfl) (T.free_len) (by decide +kernel) (le_acons (le_var 0) le_anil)) (nomark _)) (le_and1 (le_tcmp (op_inD (hu_of hr)) (sv_inD false) (le_ix (ix_any (hu_of hr)) sv_ixA (le_var 0) (le_var 3) (fun _ _ => rfl)) (le_var 2) (by rfl)))))
 (le_one (le_aug (i := 3) sc_end_of_run.nd iop_addA sv_iadd le_int)))
 (le_one (le_ret (le_var 3)))))
/-! string_at -/
abbrev s_string_at : Stmt := top 14
theorem sc_string_at : FnScope ["line", "at"] ["line", "at"] (defScope s_string_at) := ⟨rfl, rfl, rfl, by decide +kernel, rfl, by decide +kernel, by decide +kernel⟩
noncomputable def C_string_at_1 : DT :=
 (dT (eBin (cInA false) (eBin bIxA (eVar 0) (eVar 1)) (eCst (.str (lit "abcdefghijklmnopqrstuvwxyz")))))
noncomputable def S_string_at_2 : DS :=
 (sRet (eSl (eVar 0) (oSome (eVar 1)) (oSome (eCall F_end_of_run (aCons (eVar 0) (aCons (eVar 1) (aCons (eCst (.str (lit "abcdefghijklmnopqrstuvwxyz"))) aNil)))))))
noncomputable def S_string_at_1 : DS :=
 (sIf C_string_at_1
 S_string_at_2
 sNil)
noncomputable def C_string_at_3 : DT :=
 (dT (eBin (cInA false) (eBin bIxA (eVar 0) (eVar 1)) (eCst (.str (lit "0123456789")))))
noncomputable def S_string_at_4 : DS :=
 (sRet (eSl (eVar 0) (oSome (eVar 1)) (oSome (eCall F_end_of_run (aCons (eVar 0) (aCons (eVar 1) (aCons (eCst (.str (lit "0123456789"))) aNil)))))))
noncomputable def S_string_at_3 : DS :=
 (sIf C_string_at_3
 S_string_at_4
 sNil)
noncomputable def S_string_at_5 : DS :=
 (sRet (eBin bIxA (eVar 0) (eVar 1)))
noncomputable def B_string_at : DS :=
 (sSeq S_string_at_1
 (sSeq S_string_at_3
 S_string_at_5))
noncomputable def F_string_at : DF := runF 2 B_string_at
theorem ok_string_at (T : Tx K mg) : FnX P w K mg base "string_at" 2 ["line", "at"] F_string_at :=
  fnX T.def_string_at T.glo_string_at sc_string_at rfl (fun _ _ _ _ _ _ us hl => match us, hl with | [_, _], _ => rfl) fun f cdv A outer s H E hr =>
 (le_seq (le_if (le_tcmp (op_inD (hu_of hr)) (sv_inD false) (le_ix (ix_any (hu_of hr)) sv_ixA (le_var 0) (le_var 1) (fun _ _ => rfl)) (le_gstr1 (by rfl) (T.con_LETTERS)) (by rfl))
 (le_one (le_ret (le_sl (le_var 0) (le_osome (le_var 1)) (le_osome (le_callX (ok_end_of_run T) (takes_of rfl rfl rfl rfl) (hr.mono (by decide)) (by rfl) (le_acons (le_var 0) (le_acons (le_var 1) (le_acons (le_gstr1 (by rfl) (T.con_LETTERS)) le_anil))) (fun _ _ _ _ h => len_cons (fun _ _ _ _ h => len_cons (fun _ _ _ _ h => len_cons (fun _ _ _ _ h => len_nil h) h) h) h))))))
 le_nil)
 (le_seq (le_if (le_tcmp (op_inD (hu_of hr)) (sv_inD false) (le_ix (ix_any (hu_of hr)) sv_ixA (le_var 0) (le_var 1) (fun _ _ => rfl)) (le_gstr1 (by rfl) (T.con_DIGITS)) (by rfl))
 (le_one (le_ret (le_sl (le_var 0) (le_osome (le_var 1)) (le_osome (le_callX (ok_end_of_run T) (takes_of rfl rfl rfl rfl) (hr.mono (by decide)) (by rfl) (le_acons (le_var 0) (le_acons (le_var 1) (le_acons (le_gstr1 (by rfl) (T.con_DIGITS)) le_anil))) (fun _ _ _ _ h => len_cons (fun _ _ _ _ h => len_cons (fun _ _ _ _ h => len_cons (fun _ _ _ _ h => len_nil h) h) h) h))))))
 le_nil)
 (le_one (le_ret (le_ix (ix_any (hu_of hr)) sv_ixA (le_var 0) (le_var 1) (fun _ _ => rfl))))))
/-! is_number -/
abbrev s_is_number : Stmt := top 17
theorem sc_is_number : FnScope ["digits"] ["digits"] (defScope s_is_number) := ⟨rfl, rfl, rfl, by decide +kernel, rfl, by decide +kernel, by decide +kernel⟩
noncomputable def S_is_number_1 : DS :=
 (sRet (eAnd (eBin cLe (eApp fLen (aCons (eVar 0) aNil)) (eCst (.int 4))) (eOr (eBin (cEqB false) (eVar 0) (eCst (.str (lit "0")))) (eBin (cEqB true) (eBin bIxA (eVar 0) (eCst (.int 0))) (eCst (.str (lit "0")))))))
noncomputable def B_is_number : DS :=
 S_is_number_1
noncomputable def F_is_number : DF := runF 1 B_is_number
theorem ok_is_number (T : Tx K mg) : FnX P w K mg base "is_number" 1 ["digits"] F_is_number :=
  fnX T.def_is_number T.glo_is_number sc_is_number rfl (fun _ _ _ _ _ _ us hl => match us, hl with | [_], _ => rfl) fun f cdv A outer s H E hr =>
 (le_one (le_ret (le_andV (le_cmp op_le sv_le (le_callB call_len sv_len (by rfl) (T.free_len) (by decide +kernel) (le_acons (le_var 0) le_anil)) (le_gint1 (by rfl) (T.con_MOST_DIGITS)) (nomark _)) (le_oneV (le_orV (le_cmp (op_eqA hr.units) sv_eq (le_var 0) le_lit (nomark _)) (le_oneV (le_cmp (op_neA hr.units) sv_ne (le_ix (ix_any (hu_of hr)) sv_ixA (le_var 0) le_int (fun _ _ => rfl)) le_lit (nomark _))))))))
/-! kind_of -/
abbrev s_kind_of : Stmt := top 16
theorem sc_kind_of : FnScope ["string"] ["string"] (defScope s_kind_of) := ⟨rfl, rfl, rfl, by decide +kernel, rfl, by decide +kernel, by decide +kernel⟩
noncomputable def C_kind_of_1 : DT :=
 (dAnd (dT (eBin (cInA false) (eBin bIxA (eVar 0) (eCst (.int 0))) (eCst (.str (lit "abcdefghijklmnopqrstuvwxyz"))))) (dT (eBin cLe (eApp fLen (aCons (eVar 0) aNil)) (eCst (.int 12)))))
noncomputable def S_kind_of_2 : DS :=
 (sRet (eCst (.str (lit "name"))))
noncomputable def S_kind_of_1 : DS :=
 (sIf C_kind_of_1
 S_kind_of_2
 sNil)
noncomputable def C_kind_of_3 : DT :=
 (dAnd (dT (eBin (cInA false) (eBin bIxA (eVar 0) (eCst (.int 0))) (eCst (.str (lit "0123456789"))))) (dT (eCall F_is_number (aCons (eVar 0) aNil))))
noncomputable def S_kind_of_4 : DS :=
 (sRet (eCst (.str (lit "number"))))
noncomputable def S_kind_of_3 : DS :=
 (sIf C_kind_of_3
 S_kind_of_4
 sNil)
noncomputable def C_kind_of_5 : DT :=
 (dT (eBin (cInA false) (eVar 0) (eCst (.str (lit ":,;")))))
noncomputable def S_kind_of_6 : DS :=
 (sRet (eCst (.str (lit "sign"))))
noncomputable def S_kind_of_5 : DS :=
 (sIf C_kind_of_5
 S_kind_of_6
 sNil)
noncomputable def S_kind_of_7 : DS :=
 (sRet (eCst (.str (lit "bad"))))
noncomputable def B_kind_of : DS :=
 (sSeq S_kind_of_1
 (sSeq S_kind_of_3
 (sSeq S_kind_of_5
 S_kind_of_7)))
noncomputable def F_kind_of : DF := runF 1 B_kind_of
theorem ok_kind_of (T : Tx K mg) : FnX P w K mg base "kind_of" 2 ["string"] F_kind_of :=
  fnX T.def_kind_of T.glo_kind_of sc_kind_of rfl (fun _ _ _ _ _ _ us hl => match us, hl with | [_], _ => rfl) fun f cdv A outer s H E hr =>
 (le_seq (le_if (L2.PW.pt (le_and (le_tcmp (op_inD (hu_of hr)) (sv_inD false) (le_ix (ix_any (hu_of hr)) sv_ixA (le_var 0) le_int (fun _ _ => rfl)) (le_gstr1 (by rfl) (T.con_LETTERS)) (by rfl)) (le_and1 (le_tcmp op_le sv_le (le_callB call_len sv_len (by rfl) (T.free_len) (by decide +kernel) (le_acons (le_var 0) le_anil)) (le_gint1 (by rfl) (T.con_MOST_LETTERS)) (nomark _)))))
 (le_one (le_ret le_lit))
 le_nil)
 (le_seq (le_if (L2.PW.pt (le_and (le_tcmp (op_inD (hu_of hr)) (sv_inD false) (le_ix (ix_any (hu_of hr)) sv_ixA (le_var 0) le_int (fun _ _ => rfl)) (le_gstr1 (by rfl) (T.con_DIGITS)) (by rfl)) (le_and1 (le_test (le_callX (ok_is_number T) (takes_of rfl rfl rfl rfl) (hr.mono (by decide)) (by rfl) (le_acons (le_var 0) le_anil) (fun _ _ _ _ h => len_cons (fun _ _ _ _ h => len_nil h) h))))))
 (le_one (le_ret le_lit))
 le_nil)
 (le_seq (le_if (le_tcmp (op_inD (hu_of hr)) (sv_inD false) (le_var 0) (le_gstr1 (by rfl) (T.con_SIGNS)) (by rfl))
 (le_one (le_ret le_lit))
 le_nil)
 (le_one (le_ret le_lit)))))
/-! tokens -/
abbrev s_tokens : Stmt := top 13
theorem sc_tokens : FnScope ["line", "found", "at", "string"] ["line"] (defScope s_tokens) := ⟨rfl, rfl, rfl, by decide +kernel, rfl, by decide +kernel, by decide +kernel⟩
noncomputable def S_tokens_1 : DS :=
 (sAsg 1 (eNew aNil))
noncomputable def S_tokens_2 : DS :=
 (sAsg 2 (eCst (.int 0)))
noncomputable def C_tokens_4 : DT :=
 (dT (eBin (cEqB false) (eBin bIxA (eVar 0) (eVar 2)) (eCst (.str (lit " ")))))
noncomputable def S_tokens_5 : DS :=
 (sAug 2 bIadd (eCst (.int 1)))
noncomputable def S_tokens_7 : DS :=
 (sAsg 3 (eCall F_string_at (aCons (eVar 0) (aCons (eVar 2) aNil))))
noncomputable def S_tokens_8 : DS :=
 (sExp (eMt isLst mAppend (eVar 1) (aCons (eTup (aCons (eCall F_kind_of (aCons (eVar 3) aNil)) (aCons (eVar 3) aNil))) aNil)))
noncomputable def S_tokens_9 : DS :=
 (sAug 2 bIadd (eApp fLen (aCons (eVar 3) aNil)))
noncomputable def S_tokens_4 : DS :=
 (sIf C_tokens_4
 S_tokens_5
 (sSeq S_tokens_7
 (sSeq S_tokens_8
 S_tokens_9)))
noncomputable def W_tokens_3 : DT :=
 (dT (eBin cLt (eVar 2) (eApp fLen (aCons (eVar 0) aNil))))
noncomputable def L_tokens_3 : DS :=
 S_tokens_4
noncomputable def S_tokens_3 : DS :=
 (sWhile fuel W_tokens_3 L_tokens_3)
noncomputable def S_tokens_10 : DS :=
 (sRet (eVar 1))
noncomputable def B_tokens : DS :=
 (sSeq S_tokens_1
 (sSeq S_tokens_2
 (sSeq S_tokens_3
 S_tokens_10)))
noncomputable def F_tokens : DF := runF 4 B_tokens
theorem ok_tokens (T : Tx K mg) : FnX P w K mg base "tokens" 3 ["line"] F_tokens :=
  fnX T.def_tokens T.glo_tokens sc_tokens rfl (fun _ _ _ _ _ _ us hl => match us, hl with | [_], _ => rfl) fun f cdv A outer s H E hr =>
 (le_seq (le_set (i := 1) sc_tokens.nd (le_new le_anil))
 (le_seq (le_set (i := 2) sc_tokens.nd le_int)
 (le_seq (le_while fuel (passes_of rfl) (le_tcmp op_lt sv_lt (le_var 2) (le_callB call_len sv_len (by rfl) (T.free_len) (by decide +kernel) (le_acons (le_var 0) le_anil)) (nomark _))
 (le_one (le_if (le_tcmp (op_eqA hr.units) sv_eq (le_ix (ix_any (hu_of hr)) sv_ixA (le_var 0) (le_var 2) (fun _ _ => rfl)) le_lit (nomark _))
 (le_one (le_aug (i := 2) sc_tokens.nd iop_addA sv_iadd le_int))
 (le_seq (le_set (i := 3) sc_tokens.nd (le_callX (ok_string_at T) (takes_of rfl rfl rfl rfl) (hr.mono (by decide)) (by rfl) (le_acons (le_var 0) (le_acons (le_var 2) le_anil)) (fun _ _ _ _ h => len_cons (fun _ _ _ _ h => len_cons (fun _ _ _ _ h => len_nil h) h) h)))
 (le_seq (le_exp (le_mt PySem.F.plainAttrs_list PySem.F.slot_list_append PySem.F.type_list_append mt_append knd_lst sm_append (le_var 1) (le_acons (le_tup (le_acons (le_callX (ok_kind_of T) (takes_of rfl rfl rfl rfl) (hr.mono (by decide)) (by rfl) (le_acons (le_var 3) le_anil) (fun _ _ _ _ h => len_cons (fun _ _ _ _ h => len_nil h) h)) (le_acons (le_var 3) le_anil))) le_anil)))
 (le_one (le_aug (i := 2) sc_tokens.nd iop_addA sv_iadd (le_callB call_len sv_len (by rfl) (T.free_len) (by decide +kernel) (le_acons (le_var 3) le_anil)))))))))
 (le_one (le_ret (le_var 1))))))
/-! LineReader.__init__ -/
abbrev s_LineReader____init__ : Stmt := L2.inClass (top 24) 0
theorem sc_LineReader____init__ : FnScope ["self", "line", "found"] ["self", "line", "found"] (defScope s_LineReader____init__) := ⟨rfl, rfl, rfl, by decide +kernel, rfl, by decide +kernel, by decide +kernel⟩
noncomputable def S_LineReader____init___1 : DS :=
 (sFldD ["LineReader"] "line" (eVar 0) (eVar 1))
noncomputable def S_LineReader____init___2 : DS :=
 (sFldD ["LineReader"] "found" (eVar 0) (eVar 2))
noncomputable def S_LineReader____init___3 : DS :=
 (sFldD ["LineReader"] "at" (eVar 0) (eCst (.int 0)))
noncomputable def B_LineReader____init__ : DS :=
 (sSeq S_LineReader____init___1
 (sSeq S_LineReader____init___2
 S_LineReader____init___3))
noncomputable def F_LineReader____init__ : DF := runF 3 B_LineReader____init__
theorem ok_LineReader____init__ (T : Tx K mg) : FnM P w K mg base "LineReader" "__init__" 1 ["self", "line", "found"] F_LineReader____init__ :=
  fnM T.def_LineReader____init__ sc_LineReader____init__ rfl (fun _ _ _ _ _ _ us hl => match us, hl with | [_, _, _], _ => rfl) fun f cdv A outer s H E hr =>
 (le_seq (le_setFld (na_line T) (le_var 1) (le_var 0))
 (le_seq (le_setFld (na_found T) (le_var 2) (le_var 0))
 (le_one (le_setFld (na_at T) le_int (le_var 0)))))
/-! LineReader.token -/
abbrev s_LineReader__token : Stmt := L2.inClass (top 24) 1
theorem sc_LineReader__token : FnScope ["self"] ["self"] (defScope s_LineReader__token) := ⟨rfl, rfl, rfl, by decide +kernel, rfl, by decide +kernel, by decide +kernel⟩
noncomputable def C_LineReader__token_1 : DT :=
 (dT (eBin (cEqB false) (eUn (fldOf ["LineReader"] "at") (eVar 0)) (eApp fLen (aCons (eUn (fldOf ["LineReader"] "found") (eVar 0)) aNil))))
noncomputable def S_LineReader__token_2 : DS :=
 (sRaise "BillFault" ["line", "place", "word"] (aCons (eUn (fldOf ["LineReader"] "line") (eVar 0)) (aCons (eUn (fldOf ["LineReader"] "at") (eVar 0)) (aCons (eCst (.str (lit "end"))) aNil))))
noncomputable def S_LineReader__token_1 : DS :=
 (sIf C_LineReader__token_1
 S_LineReader__token_2
 sNil)
noncomputable def S_LineReader__token_3 : DS :=
 (sRet (eBin bIxA (eUn (fldOf ["LineReader"] "found") (eVar 0)) (eUn (fldOf ["LineReader"] "at") (eVar 0))))
noncomputable def B_LineReader__token : DS :=
 (sSeq S_LineReader__token_1
 S_LineReader__token_3)
noncomputable def F_LineReader__token : DF := runF 1 B_LineReader__token
theorem ok_LineReader__token (T : Tx K mg) : FnM P w K mg base "LineReader" "token" 3 ["self"] F_LineReader__token :=
  fnM T.def_LineReader__token sc_LineReader__token rfl (fun _ _ _ _ _ _ us hl => match us, hl with | [_], _ => rfl) fun f cdv A outer s H E hr =>
 (le_seq (le_if (le_tcmp (op_eqA hr.units) sv_eq (le_fld (na_at T) (le_var 0)) (le_callB call_len sv_len (by rfl) (T.free_len) (by decide +kernel) (le_acons (le_fld (na_found T) (le_var 0)) le_anil)) (nomark _))
 (le_one (le_raise T.exc_BillFault T.glo_BillFault (ok_exc_BillFault T) (hr.mono (by decide)) rfl (takes_of rfl rfl rfl rfl) (by rfl) (le_acons (le_fld (na_line T) (le_var 0)) (le_acons (le_fld (na_at T) (le_var 0)) (le_acons le_lit le_anil)))))
 le_nil)
 (le_one (le_ret (le_ix (ix_any (hu_of hr)) sv_ixA (le_fld (na_found T) (le_var 0)) (le_fld (na_at T) (le_var 0)) (fun _ _ => rfl)))))
/-! LineReader.step -/
abbrev s_LineReader__step : Stmt := L2.inClass (top 24) 2
theorem sc_LineReader__step : FnScope ["self", "fits"] ["self", "fits"] (defScope s_LineReader__step) := ⟨rfl, rfl, rfl, by decide +kernel, rfl, by decide +kernel, by decide +kernel⟩
noncomputable def C_LineReader__step_1 : DT :=
 (dNot (dTA (eVar 1)))
noncomputable def S_LineReader__step_2 : DS :=
 (sRaise "BillFault" ["line", "place", "word"] (aCons (eUn (fldOf ["LineReader"] "line") (eVar 0)) (aCons (eUn (fldOf ["LineReader"] "at") (eVar 0)) (aCons (eCst (.str (lit "unexpected"))) aNil))))
noncomputable def S_LineReader__step_1 : DS :=
 (sIf C_LineReader__step_1
 S_LineReader__step_2
 sNil)
noncomputable def S_LineReader__step_3 : DS :=
 (sFldA ["LineReader"] "at" bIadd (eVar 0) (eCst (.int 1)))
noncomputable def B_LineReader__step : DS :=
 (sSeq S_LineReader__step_1
 S_LineReader__step_3)
noncomputable def F_LineReader__step : DF := runF 2 B_LineReader__step
theorem ok_LineReader__step (T : Tx K mg) : FnM P w K mg base "LineReader" "step" 3 ["self", "fits"] F_LineReader__step :=
  fnM T.def_LineReader__step sc_LineReader__step rfl (fun _ _ _ _ _ _ us hl => match us, hl with | [_, _], _ => rfl) fun f cdv A outer s H E hr =>
 (le_seq (le_if (le_not (le_tru (le_var 1)))
 (le_one (le_raise T.exc_BillFault T.glo_BillFault (ok_exc_BillFault T) (hr.mono (by decide)) rfl (takes_of rfl rfl rfl rfl) (by rfl) (le_acons (le_fld (na_line T) (le_var 0)) (le_acons (le_fld (na_at T) (le_var 0)) (le_acons le_lit le_anil)))))
 le_nil)
 (le_one (le_fldAug (na_at T) iop_addA sv_iadd (le_var 0) le_int)))
/-! LineReader.take_name -/
abbrev s_LineReader__take_name : Stmt := L2.inClass (top 24) 4
theorem sc_LineReader__take_name : FnScope ["self", "kind", "string"] ["self"] (defScope s_LineReader__take_name) := ⟨rfl, rfl, rfl, by decide +kernel, rfl, by decide +kernel, by decide +kernel⟩
noncomputable def S_LineReader__take_name_1 : DS :=
 (sAsgG (gT (gsCons (gN 1) (gsCons (gN 2) gsNil))) (eMeth "LineReader" "token" F_LineReader__token (eVar 0) aNil))
noncomputable def S_LineReader__take_name_2 : DS :=
 (sExp (eMeth "LineReader" "step" F_LineReader__step (eVar 0) (aCons (eBin (cEqB false) (eVar 1) (eCst (.str (lit "name")))) aNil)))
noncomputable def S_LineReader__take_name_3 : DS :=
 (sRet (eVar 2))
noncomputable def B_LineReader__take_name : DS :=
 (sSeq S_LineReader__take_name_1
 (sSeq S_LineReader__take_name_2
 S_LineReader__take_name_3))
noncomputable def F_LineReader__take_name : DF := runF 3 B_LineReader__take_name
theorem ok_LineReader__take_name (T : Tx K mg) : FnM P w K mg base "LineReader" "take_name" 4 ["self"] F_LineReader__take_name :=
  fnM T.def_LineReader__take_name sc_LineReader__take_name rfl (fun _ _ _ _ _ _ us hl => match us, hl with | [_], _ => rfl) fun f cdv A outer s H E hr =>
 (le_seq (le_asgG (le_meth0 (cm_LineReader__token T) (ok_LineReader__token T) (takes_of rfl rfl rfl rfl) (hr.mono (by decide)) (le_var 0) rfl) (le_gtup rfl (le_gcons (le_gname (i := 1) sc_LineReader__take_name.nd) (le_gcons (le_gname (i := 2) sc_LineReader__take_name.nd) le_gnil))))
 (le_seq (le_exp (le_meth (cm_LineReader__step T) (ok_LineReader__step T) (takes_of rfl rfl rfl rfl) (hr.mono (by decide)) (le_var 0) (le_acons (le_cmp (op_eqA hr.units) sv_eq (le_var 1) le_lit (nomark _)) le_anil) (len_succ (fun _ _ _ _ h => len_cons (fun _ _ _ _ h => len_nil h) h))))
 (le_one (le_ret (le_var 2)))))
/-! LineReader.take_token -/
abbrev s_LineReader__take_token : Stmt := L2.inClass (top 24) 3
theorem sc_LineReader__take_token : FnScope ["self", "kind", "string"] ["self", "kind", "string"] (defScope s_LineReader__take_token) := ⟨rfl, rfl, rfl, by decide +kernel, rfl, by decide +kernel, by decide +kernel⟩
noncomputable def S_LineReader__take_token_1 : DS :=
 (sExp (eMeth "LineReader" "step" F_LineReader__step (eVar 0) (aCons (eBin (cEqB false) (eMeth "LineReader" "token" F_LineReader__token (eVar 0) aNil) (eTup (aCons (eVar 1) (aCons (eVar 2) aNil)))) aNil)))
noncomputable def B_LineReader__take_token : DS :=
 S_LineReader__take_token_1
noncomputable def F_LineReader__take_token : DF := runF 3 B_LineReader__take_token
theorem ok_LineReader__take_token (T : Tx K mg) : FnM P w K mg base "LineReader" "take_token" 4 ["self", "kind", "string"] F_LineReader__take_token :=
  fnM T.def_LineReader__take_token sc_LineReader__take_token rfl (fun _ _ _ _ _ _ us hl => match us, hl with | [_, _, _], _ => rfl) fun f cdv A outer s H E hr =>
 (le_one (le_exp (le_meth (cm_LineReader__step T) (ok_LineReader__step T) (takes_of rfl rfl rfl rfl) (hr.mono (by decide)) (le_var 0) (le_acons (le_cmp (op_eqA hr.units) sv_eq (le_meth0 (cm_LineReader__token T) (ok_LineReader__token T) (takes_of rfl rfl rfl rfl) (hr.mono (by decide)) (le_var 0) rfl) (le_tup (le_acons (le_var 1) (le_acons (le_var 2) le_anil))) (nomark _)) le_anil) (len_succ (fun _ _ _ _ h => len_cons (fun _ _ _ _ h => len_nil h) h)))))
/-! LineReader.take_number -/
abbrev s_LineReader__take_number : Stmt := L2.inClass (top 24) 5
theorem sc_LineReader__take_number : FnScope ["self", "least", "greatest", "kind", "string"] ["self", "least", "greatest"] (defScope s_LineReader__take_number) := ⟨rfl, rfl, rfl, by decide +kernel, rfl, by decide +kernel, by decide +kernel⟩
noncomputable def S_LineReader__take_number_1 : DS :=
 (sAsgG (gT (gsCons (gN 3) (gsCons (gN 4) gsNil))) (eMeth "LineReader" "token" F_LineReader__token (eVar 0) aNil))
noncomputable def S_LineReader__take_number_2 : DS :=
 (sExp (eMeth "LineReader" "step" F_LineReader__step (eVar 0) (aCons (eAnd (eBin (cEqB false) (eVar 3) (eCst (.str (lit "number")))) (eChain cLe cLe (eVar 1) (eApp fInt (aCons (eVar 4) aNil)) (eVar 2))) aNil)))
noncomputable def S_LineReader__take_number_3 : DS :=
 (sRet (eApp fInt (aCons (eVar 4) aNil)))
noncomputable def B_LineReader__take_number : DS :=
 (sSeq S_LineReader__take_number_1
 (sSeq S_LineReader__take_number_2
 S_LineReader__take_number_3))
noncomputable def F_LineReader__take_number : DF := runF 5 B_LineReader__take_number
theorem ok_LineReader__take_number (T : Tx K mg) : FnM P w K mg base "LineReader" "take_number" 4 ["self", "least", "greatest"] F_LineReader__take_number :=
  fnM T.def_LineReader__take_number sc_LineReader__take_number rfl (fun _ _ _ _ _ _ us hl => match us, hl with | [_, _, _], _ => rfl) fun f cdv A outer s H E hr =>
 (le_seq (le_asgG (le_meth0 (cm_LineReader__token T) (ok_LineReader__token T) (takes_of rfl rfl rfl rfl) (hr.mono (by decide)) (le_var 0) rfl) (le_gtup rfl (le_gcons (le_gname (i := 3) sc_LineReader__take_number.nd) (le_gcons (le_gname (i := 4) sc_LineReader__take_number.nd) le_gnil))))
 (le_seq (le_exp (le_meth (cm_LineReader__step T) (ok_LineReader__step T) (takes_of rfl rfl rfl rfl) (hr.mono (by decide)) (le_var 0) (le_acons (le_andV (le_cmp (op_eqA hr.units) sv_eq (le_var 3) le_lit (nomark _)) (le_oneV (le_chain op_le sv_le op_le sv_le (le_var 1) (le_callTy call_intA sv_int (by rfl) (T.free_int) (by decide +kernel) (le_acons (le_var 4) le_anil)) (le_var 2)))) le_anil) (len_succ (fun _ _ _ _ h => len_cons (fun _ _ _ _ h => len_nil h) h))))
 (le_one (le_ret (le_callTy call_intA sv_int (by rfl) (T.free_int) (by decide +kernel) (le_acons (le_var 4) le_anil))))))
/-! read_part -/
abbrev s_read_part : Stmt := top 29
theorem sc_read_part : FnScope ["reader", "quantity", "kind", "_", "place", "name"] ["reader"] (defScope s_read_part) := ⟨rfl, rfl, rfl, by decide +kernel, rfl, by decide +kernel, by decide +kernel⟩
noncomputable def S_read_part_1 : DS :=
 (sAsg 1 (eCst (.int 1)))
noncomputable def S_read_part_2 : DS :=
 (sAsgG (gT (gsCons (gN 2) (gsCons (gN 3) gsNil))) (eMeth "LineReader" "token" F_LineReader__token (eVar 0) aNil))
noncomputable def C_read_part_3 : DT :=
 (dT (eBin (cEqB false) (eVar 2) (eCst (.str (lit "number")))))
noncomputable def S_read_part_4 : DS :=
 (sAsg 1 (eMeth "LineReader" "take_number" F_LineReader__take_number (eVar 0) (aCons (eCst (.int 1)) (aCons (eCst (.int 20)) aNil))))
noncomputable def S_read_part_3 : DS :=
 (sIf C_read_part_3
 S_read_part_4
 sNil)
noncomputable def S_read_part_5 : DS :=
 (sAsg 4 (eUn (fldOf ["LineReader"] "at") (eVar 0)))
noncomputable def S_read_part_6 : DS :=
 (sAsg 5 (eMeth "LineReader" "take_name" F_LineReader__take_name (eVar 0) aNil))
noncomputable def S_read_part_7 : DS :=
 (sRet (eTup (aCons (eVar 4) (aCons (eVar 5) (aCons (eVar 1) aNil)))))
noncomputable def B_read_part : DS :=
 (sSeq S_read_part_1
 (sSeq S_read_part_2
 (sSeq S_read_part_3
 (sSeq S_read_part_5
 (sSeq S_read_part_6
 S_read_part_7)))))
noncomputable def F_read_part : DF := runF 6 B_read_part
theorem ok_read_part (T : Tx K mg) : FnX P w K mg base "read_part" 5 ["reader"] F_read_part :=
  fnX T.def_read_part T.glo_read_part sc_read_part rfl (fun _ _ _ _ _ _ us hl => match us, hl with | [_], _ => rfl) fun f cdv A outer s H E hr =>
 (le_seq (le_set (i := 1) sc_read_part.nd le_int)
 (le_seq (le_asgG (le_meth0 (cm_LineReader__token T) (ok_LineReader__token T) (takes_of rfl rfl rfl rfl) (hr.mono (by decide)) (le_var 0) rfl) (le_gtup rfl (le_gcons (le_gname (i := 2) sc_read_part.nd) (le_gcons (le_gname (i := 3) sc_read_part.nd) le_gnil))))
 (le_seq (le_if (le_tcmp (op_eqA hr.units) sv_eq (le_var 2) le_lit (nomark _))
 (le_one (le_set (i := 1) sc_read_part.nd (le_meth (cm_LineReader__take_number T) (ok_LineReader__take_number T) (takes_of rfl rfl rfl rfl) (hr.mono (by decide)) (le_var 0) (le_acons le_int (le_acons (le_gint1 (by rfl) (T.con_MOST_QUANTITY)) le_anil)) (len_succ (fun _ _ _ _ h => len_cons (fun _ _ _ _ h => len_cons (fun _ _ _ _ h => len_nil h) h) h)))))
 le_nil)
 (le_seq (le_set (i := 4) sc_read_part.nd (le_fld (na_at T) (le_var 0)))
 (le_seq (le_set (i := 5) sc_read_part.nd (le_meth0 (cm_LineReader__take_name T) (ok_LineReader__take_name T) (takes_of rfl rfl rfl rfl) (hr.mono (by decide)) (le_var 0) rfl))
 (le_one (le_ret (le_tup (le_acons (le_var 4) (le_acons (le_var 5) (le_acons (le_var 1) le_anil)))))))))))
/-! read_parts -/
abbrev s_read_parts : Stmt := top 28
theorem sc_read_parts : FnScope ["reader", "parts"] ["reader"] (defScope s_read_parts) := ⟨rfl, rfl, rfl, by decide +kernel, rfl, by decide +kernel, by decide +kernel⟩
noncomputable def S_read_parts_1 : DS :=
 (sAsg 1 (eNew aNil))
noncomputable def C_read_parts_2 : DT :=
 (dT (eBin (cEqB true) (eMeth "LineReader" "token" F_LineReader__token (eVar 0) aNil) (eTup (aCons (eCst (.str (lit "sign"))) (aCons (eCst (.str (lit ";"))) aNil)))))
noncomputable def S_read_parts_3 : DS :=
 (sExp (eMt isLst mAppend (eVar 1) (aCons (eCall F_read_part (aCons (eVar 0) aNil)) aNil)))
noncomputable def S_read_parts_5 : DS :=
 (sExp (eMeth "LineReader" "take_token" F_LineReader__take_token (eVar 0) (aCons (eCst (.str (lit "sign"))) (aCons (eCst (.str (lit ","))) aNil))))
noncomputable def S_read_parts_6 : DS :=
 (sExp (eMt isLst mAppend (eVar 1) (aCons (eCall F_read_part (aCons (eVar 0) aNil)) aNil)))
noncomputable def W_read_parts_4 : DT :=
 (dAnd (dT (eBin cLt (eApp fLen (aCons (eVar 1) aNil)) (eCst (.int 4)))) (dT (eBin (cEqB false) (eMeth "LineReader" "token" F_LineReader__token (eVar 0) aNil) (eTup (aCons (eCst (.str (lit "sign"))) (aCons (eCst (.str (lit ","))) aNil))))))
noncomputable def L_read_parts_4 : DS :=
 (sSeq S_read_parts_5
 S_read_parts_6)
noncomputable def S_read_parts_4 : DS :=
 (sWhile fuel W_read_parts_4 L_read_parts_4)
noncomputable def S_read_parts_2 : DS :=
 (sIf C_read_parts_2
 (sSeq S_read_parts_3
 S_read_parts_4)
 sNil)
noncomputable def S_read_parts_7 : DS :=
 (sRet (eVar 1))
noncomputable def B_read_parts : DS :=
 (sSeq S_read_parts_1
 (sSeq S_read_parts_2
 S_read_parts_7))
noncomputable def F_read_parts : DF := runF 2 B_read_parts
theorem ok_read_parts (T : Tx K mg) : FnX P w K mg base "read_parts" 6 ["reader"] F_read_parts :=
  fnX T.def_read_parts T.glo_read_parts sc_read_parts rfl (fun _ _ _ _ _ _ us hl => match us, hl with | [_], _ => rfl) fun f cdv A outer s H E hr =>
 (le_seq (le_set (i := 1) sc_read_parts.nd (le_new le_anil))
 (le_seq (le_if (le_tcmp (op_neA hr.units) sv_ne (le_meth0 (cm_LineReader__token T) (ok_LineReader__token T) (takes_of rfl rfl rfl rfl) (hr.mono (by decide)) (le_var 0) rfl) (le_tup (le_acons le_lit (le_acons le_lit le_anil))) (nomark _))
 (le_seq (le_exp (le_mt PySem.F.plainAttrs_list PySem.F.slot_list_append PySem.F.type_list_append mt_append knd_lst sm_append (le_var 1) (le_acons (le_callX (ok_read_part T) (takes_of rfl rfl rfl rfl) (hr.mono (by decide)) (by rfl) (le_acons (le_var 0) le_anil) (fun _ _ _ _ h => len_cons (fun _ _ _ _ h => len_nil h) h)) le_anil)))
 (le_one (le_while fuel (passes_of rfl) (L2.PW.pt (le_and (le_tcmp op_lt sv_lt (le_callB call_len sv_len (by rfl) (T.free_len) (by decide +kernel) (le_acons (le_var 1) le_anil)) (le_gint1 (by rfl) (T.con_MOST_PARTS)) (nomark _)) (le_and1 (le_tcmp (op_eqA hr.units) sv_eq (le_meth0 (cm_LineReader__token T) (ok_LineReader__token T) (takes_of rfl rfl rfl rfl) (hr.mono (by decide)) (le_var 0) rfl) (le_tup (le_acons le_lit (le_acons le_lit le_anil))) (nomark _)))))
 (le_seq (le_exp (le_meth (cm_LineReader__take_token T) (ok_LineReader__take_token T) (takes_of rfl rfl rfl rfl) (hr.mono (by decide)) (le_var 0) (le_acons le_lit (le_acons le_lit le_anil)) (len_succ (fun _ _ _ _ h => len_cons (fun _ _ _ _ h => len_cons (fun _ _ _ _ h => len_nil h) h) h))))
 (le_one (le_exp (le_mt PySem.F.plainAttrs_list PySem.F.slot_list_append PySem.F.type_list_append mt_append knd_lst sm_append (le_var 1) (le_acons (le_callX (ok_read_part T) (takes_of rfl rfl rfl rfl) (hr.mono (by decide)) (by rfl) (le_acons (le_var 0) le_anil) (fun _ _ _ _ h => len_cons (fun _ _ _ _ h => len_nil h) h)) le_anil))))))))
 le_nil)
 (le_one (le_ret (le_var 1)))))
/-! LineReader.take_end -/
abbrev s_LineReader__take_end : Stmt := L2.inClass (top 24) 6
theorem sc_LineReader__take_end : FnScope ["self"] ["self"] (defScope s_LineReader__take_end) := ⟨rfl, rfl, rfl, by decide +kernel, rfl, by decide +kernel, by decide +kernel⟩
noncomputable def C_LineReader__take_end_1 : DT :=
 (dT (eBin cLt (eUn (fldOf ["LineReader"] "at") (eVar 0)) (eApp fLen (aCons (eUn (fldOf ["LineReader"] "found") (eVar 0)) aNil))))
noncomputable def S_LineReader__take_end_2 : DS :=
 (sRaise "BillFault" ["line", "place", "word"] (aCons (eUn (fldOf ["LineReader"] "line") (eVar 0)) (aCons (eUn (fldOf ["LineReader"] "at") (eVar 0)) (aCons (eCst (.str (lit "unexpected"))) aNil))))
noncomputable def S_LineReader__take_end_1 : DS :=
 (sIf C_LineReader__take_end_1
 S_LineReader__take_end_2
 sNil)
noncomputable def B_LineReader__take_end : DS :=
 S_LineReader__take_end_1
noncomputable def F_LineReader__take_end : DF := runF 1 B_LineReader__take_end
theorem ok_LineReader__take_end (T : Tx K mg) : FnM P w K mg base "LineReader" "take_end" 3 ["self"] F_LineReader__take_end :=
  fnM T.def_LineReader__take_end sc_LineReader__take_end rfl (fun _ _ _ _ _ _ us hl => match us, hl with | [_], _ => rfl) fun f cdv A outer s H E hr =>
 (le_one (le_if (le_tcmp op_lt sv_lt (le_fld (na_at T) (le_var 0)) (le_callB call_len sv_len (by rfl) (T.free_len) (by decide +kernel) (le_acons (le_fld (na_found T) (le_var 0)) le_anil)) (nomark _))
 (le_one (le_raise T.exc_BillFault T.glo_BillFault (ok_exc_BillFault T) (hr.mono (by decide)) rfl (takes_of rfl rfl rfl rfl) (by rfl) (le_acons (le_fld (na_line T) (le_var 0)) (le_acons (le_fld (na_at T) (le_var 0)) (le_acons le_lit le_anil)))))
 le_nil))
/-! read_row -/
abbrev s_read_row : Stmt := top 27
theorem sc_read_row : FnScope ["line", "found", "reader", "name", "parts", "lead", "lot", "good"] ["line", "found"] (defScope s_read_row) := ⟨rfl, rfl, rfl, by decide +kernel, rfl, by decide +kernel, by decide +kernel⟩
noncomputable def S_read_row_1 : DS :=
 (sAsg 2 (eMake "LineReader" F_LineReader____init__ (aCons (eVar 0) (aCons (eVar 1) aNil))))
noncomputable def S_read_row_2 : DS :=
 (sAsg 3 (eMeth "LineReader" "take_name" F_LineReader__take_name (eVar 2) aNil))
noncomputable def S_read_row_3 : DS :=
 (sExp (eMeth "LineReader" "take_token" F_LineReader__take_token (eVar 2) (aCons (eCst (.str (lit "sign"))) (aCons (eCst (.str (lit ":"))) aNil))))
noncomputable def S_read_row_4 : DS :=
 (sAsg 4 (eCall F_read_parts (aCons (eVar 2) aNil)))
noncomputable def S_read_row_5 : DS :=
 (sExp (eMeth "LineReader" "take_token" F_LineReader__take_token (eVar 2) (aCons (eCst (.str (lit "sign"))) (aCons (eCst (.str (lit ";"))) aNil))))
noncomputable def S_read_row_6 : DS :=
 (sAsg 5 (eMeth "LineReader" "take_number" F_LineReader__take_number (eVar 2) (aCons (eCst (.int 0)) (aCons (eCst (.int 10)) aNil))))
noncomputable def S_read_row_7 : DS :=
 (sExp (eMeth "LineReader" "take_token" F_LineReader__take_token (eVar 2) (aCons (eCst (.str (lit "name"))) (aCons (eCst (.str (lit "days"))) aNil))))
noncomputable def S_read_row_8 : DS :=
 (sExp (eMeth "LineReader" "take_token" F_LineReader__take_token (eVar 2) (aCons (eCst (.str (lit "sign"))) (aCons (eCst (.str (lit ";"))) aNil))))
noncomputable def S_read_row_9 : DS :=
 (sAsg 6 (eMeth "LineReader" "take_number" F_LineReader__take_number (eVar 2) (aCons (eCst (.int 1)) (aCons (eCst (.int 50)) aNil))))
noncomputable def S_read_row_10 : DS :=
 (sExp (eMeth "LineReader" "take_token" F_LineReader__take_token (eVar 2) (aCons (eCst (.str (lit "name"))) (aCons (eCst (.str (lit "yields"))) aNil))))
noncomputable def S_read_row_11 : DS :=
 (sAsg 7 (eMeth "LineReader" "take_number" F_LineReader__take_number (eVar 2) (aCons (eCst (.int 1)) (aCons (eVar 6) aNil))))
noncomputable def S_read_row_12 : DS :=
 (sExp (eMeth "LineReader" "take_end" F_LineReader__take_end (eVar 2) aNil))
noncomputable def S_read_row_13 : DS :=
 (sRet (eTup (aCons (eVar 0) (aCons (eVar 3) (aCons (eVar 4) (aCons (eVar 5) (aCons (eVar 6) (aCons (eVar 7) aNil))))))))
noncomputable def B_read_row : DS :=
 (sSeq S_read_row_1
 (sSeq S_read_row_2
 (sSeq S_read_row_3
 (sSeq S_read_row_4
 (sSeq S_read_row_5
 (sSeq S_read_row_6
 (sSeq S_read_row_7
 (sSeq S_read_row_8
 (sSeq S_read_row_9
 (sSeq S_read_row_10
 (sSeq S_read_row_11
 (sSeq S_read_row_12
 S_read_row_13))))))))))))
noncomputable def F_read_row : DF := runF 8 B_read_row
theorem ok_read_row (T : Tx K mg) : FnX P w K mg base "read_row" 7 ["line", "found"] F_read_row :=
  fnX T.def_read_row T.glo_read_row sc_read_row rfl (fun _ _ _ _ _ _ us hl => match us, hl with | [_, _], _ => rfl) fun f cdv A outer s H E hr =>
 (le_seq (le_set (i := 2) sc_read_row.nd (le_make T.glo_LineReader T.mkr_LineReader (ok_LineReader____init__ T) (hr.mono (by decide)) (by rfl) (le_acons (le_var 0) (le_acons (le_var 1) le_anil)) (len_succ (fun _ _ _ _ h => len_cons (fun _ _ _ _ h => len_cons (fun _ _ _ _ h => len_nil h) h) h))))
 (le_seq (le_set (i := 3) sc_read_row.nd (le_meth0 (cm_LineReader__take_name T) (ok_LineReader__take_name T) (takes_of rfl rfl rfl rfl) (hr.mono (by decide)) (le_var 2) rfl))
 (le_seq (le_exp (le_meth (cm_LineReader__take_token T) (ok_LineReader__take_token T) (takes_of rfl rfl rfl rfl) (hr.mono (by decide)) (le_var 2) (le_acons le_lit (le_acons le_lit le_anil)) (len_succ (fun _ _ _ _ h => len_cons (fun _ _ _ _ h => len_cons (fun _ _ _ _ h => len_nil h) h) h))))
 (le_seq (le_set (i := 4) sc_read_row.nd (le_callX (ok_read_parts T) (takes_of rfl rfl rfl rfl) (hr.mono (by decide)) (by rfl) (le_acons (le_var 2) le_anil) (fun _ _ _ _ h => len_cons (fun _ _ _ _ h => len_nil h) h)))
 (le_seq (le_exp (le_meth (cm_LineReader__take_token T) (ok_LineReader__take_token T) (takes_of rfl rfl rfl rfl) (hr.mono (by decide)) (le_var 2) (le_acons le_lit (le_acons le_lit le_anil)) (len_succ (fun _ _ _ _ h => len_cons (fun _ _ _ _ h => len_cons (fun _ _ _ _ h => len_nil h) h) h))))
 (le_seq (le_set (i := 5) sc_read_row.nd (le_meth (cm_LineReader__take_number T) (ok_LineReader__take_number T) (takes_of rfl rfl rfl rfl) (hr.mono (by decide)) (le_var 2) (le_acons le_int (le_acons (le_gint1 (by rfl) (T.con_MOST_LEAD)) le_anil)) (len_succ (fun _ _ _ _ h => len_cons (fun _ _ _ _ h => len_cons (fun _ _ _ _ h => len_nil h) h) h))))
 (le_seq (le_exp (le_meth (cm_LineReader__take_token T) (ok_LineReader__take_token T) (takes_of rfl rfl rfl rfl) (hr.mono (by decide)) (le_var 2) (le_acons le_lit (le_acons le_lit le_anil)) (len_succ (fun _ _ _ _ h => len_cons (fun _ _ _ _ h => len_cons (fun _ _ _ _ h => len_nil h) h) h))))
 (le_seq (le_exp (le_meth (cm_LineReader__take_token T) (ok_LineReader__take_token T) (takes_of rfl rfl rfl rfl) (hr.mono (by decide)) (le_var 2) (le_acons le_lit (le_acons le_lit le_anil)) (len_succ (fun _ _ _ _ h => len_cons (fun _ _ _ _ h => len_cons (fun _ _ _ _ h => len_nil h) h) h))))
 (le_seq (le_set (i := 6) sc_read_row.nd (le_meth (cm_LineReader__take_number T) (ok_LineReader__take_number T) (takes_of rfl rfl rfl rfl) (hr.mono (by decide)) (le_var 2) (le_acons le_int (le_acons (le_gint1 (by rfl) (T.con_MOST_LOT)) le_anil)) (len_succ (fun _ _ _ _ h => len_cons (fun _ _ _ _ h => len_cons (fun _ _ _ _ h => len_nil h) h) h))))
 (le_seq (le_exp (le_meth (cm_LineReader__take_token T) (ok_LineReader__take_token T) (takes_of rfl rfl rfl rfl) (hr.mono (by decide)) (le_var 2) (le_acons le_lit (le_acons le_lit le_anil)) (len_succ (fun _ _ _ _ h => len_cons (fun _ _ _ _ h => len_cons (fun _ _ _ _ h => len_nil h) h) h))))
 (le_seq (le_set (i := 7) sc_read_row.nd (le_meth (cm_LineReader__take_number T) (ok_LineReader__take_number T) (takes_of rfl rfl rfl rfl) (hr.mono (by decide)) (le_var 2) (le_acons le_int (le_acons (le_var 6) le_anil)) (len_succ (fun _ _ _ _ h => len_cons (fun _ _ _ _ h => len_cons (fun _ _ _ _ h => len_nil h) h) h))))
 (le_seq (le_exp (le_meth0 (cm_LineReader__take_end T) (ok_LineReader__take_end T) (takes_of rfl rfl rfl rfl) (hr.mono (by decide)) (le_var 2) rfl))
 (le_one (le_ret (le_tup (le_acons (le_var 0) (le_acons (le_var 3) (le_acons (le_var 4) (le_acons (le_var 5) (le_acons (le_var 6) (le_acons (le_var 7) le_anil)))))))))))))))))))))
/-! read_rows -/
abbrev s_read_rows : Stmt := top 26
theorem sc_read_rows : FnScope ["text", "rows", "line", "string", "found", "row", "earlier"] ["text"] (defScope s_read_rows) := ⟨rfl, rfl, rfl, by decide +kernel, rfl, by decide +kernel, by decide +kernel⟩
noncomputable def S_read_rows_1 : DS :=
 (sAsg 1 (eNew aNil))
noncomputable def S_read_rows_3 : DS :=
 (sAsg 4 (eCall F_tokens (aCons (eVar 3) aNil)))
noncomputable def C_read_rows_4 : DT :=
 (dTA (eVar 4))
noncomputable def S_read_rows_5 : DS :=
 (sAsg 5 (eCall F_read_row (aCons (eVar 2) (aCons (eVar 4) aNil))))
noncomputable def C_read_rows_6 : DT :=
 (dT (eBin (cInA false) (eBin bIxA (eVar 5) (eCst (.int 1))) (eSeal (eLcA (eVar 1) (.one 6) dYes (eBin bIxA (eVar 6) (eCst (.int 1))) [6]))))
noncomputable def S_read_rows_7 : DS :=
 (sRaise "BillFault" ["line", "place", "word"] (aCons (eVar 2) (aCons (eCst (.int 0)) (aCons (eCst (.str (lit "double"))) aNil))))
noncomputable def S_read_rows_6 : DS :=
 (sIf C_read_rows_6
 S_read_rows_7
 sNil)
noncomputable def C_read_rows_8 : DT :=
 (dT (eBin (cEqB false) (eApp fLen (aCons (eVar 1) aNil)) (eCst (.int 8))))
noncomputable def S_read_rows_9 : DS :=
 (sRaise "BillFault" ["line", "place", "word"] (aCons (eVar 2) (aCons (eCst (.int 0)) (aCons (eCst (.str (lit "many"))) aNil))))
noncomputable def S_read_rows_8 : DS :=
 (sIf C_read_rows_8
 S_read_rows_9
 sNil)
noncomputable def S_read_rows_10 : DS :=
 (sExp (eMt isLst mAppend (eVar 1) (aCons (eVar 5) aNil)))
noncomputable def S_read_rows_4 : DS :=
 (sIf C_read_rows_4
 (sSeq S_read_rows_5
 (sSeq S_read_rows_6
 (sSeq S_read_rows_8
 S_read_rows_10)))
 sNil)
noncomputable def L_read_rows_2 : DS :=
 (sSeq S_read_rows_3
 S_read_rows_4)
noncomputable def S_read_rows_2 : DS :=
 (sFor (gT (gsCons (gN 2) (gsCons (gN 3) gsNil))) (iEnA (aCons (eMt isStr mSplit (eVar 0) (aCons (eCst (.str (lit "\n"))) aNil)) aNil)) L_read_rows_2)
noncomputable def S_read_rows_11 : DS :=
 (sRet (eVar 1))
noncomputable def B_read_rows : DS :=
 (sSeq S_read_rows_1
 (sSeq S_read_rows_2
 S_read_rows_11))
noncomputable def F_read_rows : DF := runF 7 B_read_rows
theorem ok_read_rows (T : Tx K mg) : FnX P w K mg base "read_rows" 8 ["text"] F_read_rows :=
  fnX T.def_read_rows T.glo_read_rows sc_read_rows rfl (fun _ _ _ _ _ _ us hl => match us, hl with | [_], _ => rfl) fun f cdv A outer s H E hr =>
 (le_seq (le_set (i := 1) sc_read_rows.nd (le_new le_anil))
 (le_seq (le_for (passes_of rfl) rfl (le_enA (by rfl) (T.free_enumerate) (le_acons (le_mt PySem.F.plainAttrs_str PySem.F.slot_str_split PySem.F.type_str_split mt_split knd_str sm_split (le_var 0) (le_acons le_lit le_anil)) le_anil)) (le_gtup rfl (le_gcons (le_gname (i := 2) sc_read_rows.nd) (le_gcons (le_gname (i := 3) sc_read_rows.nd) le_gnil)))
 (le_seq (le_set (i := 4) sc_read_rows.nd (le_callX (ok_tokens T) (takes_of rfl rfl rfl rfl) (hr.mono (by decide)) (by rfl) (le_acons (le_var 3) le_anil) (fun _ _ _ _ h => len_cons (fun _ _ _ _ h => len_nil h) h)))
 (le_one (le_if (le_tru (le_var 4))
 (le_seq (le_set (i := 5) sc_read_rows.nd (le_callX (ok_read_row T) (takes_of rfl rfl rfl rfl) (hr.mono (by decide)) (by rfl) (le_acons (le_var 2) (le_acons (le_var 4) le_anil)) (fun _ _ _ _ h => len_cons (fun _ _ _ _ h => len_cons (fun _ _ _ _ h => len_nil h) h) h)))
 (le_seq (le_if (le_tcmp (op_inD (hu_of hr)) (sv_inD false) (le_ix (ix_any (hu_of hr)) sv_ixA (le_var 5) le_int (fun _ _ => rfl)) (le_seal (le_lcA (own := [("earlier", 6)]) (g := (.one 6)) rfl sc_read_rows.nd (le_var 1) (blkOk_by (N := ["text", "rows", "line", "string", "found", "row", "earlier"]) (sc := defScope s_read_rows) (by decide +kernel)) (by decide) (fun _ _ _ _ _ => pg_name (i := 6) sc_read_rows.nd rfl (by first | exact Or.inl rfl | exact Or.inr rfl)) (fun _ _ _ _ _ => le_pts0) (fun _ _ _ _ _ => (le_ix (ix_any (hu_of hr)) sv_ixA (le_var 6) le_int (fun _ _ => rfl))))) (by rfl))
 (le_one (le_raise T.exc_BillFault T.glo_BillFault (ok_exc_BillFault T) (hr.mono (by decide)) rfl (takes_of rfl rfl rfl rfl) (by rfl) (le_acons (le_var 2) (le_acons le_int (le_acons le_lit le_anil)))))
 le_nil)
 (le_seq (le_if (le_tcmp (op_eqA hr.units) sv_eq (le_callB call_len sv_len (by rfl) (T.free_len) (by decide +kernel) (le_acons (le_var 1) le_anil)) (le_gint1 (by rfl) (T.con_MOST_ITEMS)) (nomark _))
 (le_one (le_raise T.exc_BillFault T.glo_BillFault (ok_exc_BillFault T) (hr.mono (by decide)) rfl (takes_of rfl rfl rfl rfl) (by rfl) (le_acons (le_var 2) (le_acons le_int (le_acons le_lit le_anil)))))
 le_nil)
 (le_one (le_exp (le_mt PySem.F.plainAttrs_list PySem.F.slot_list_append PySem.F.type_list_append mt_append knd_lst sm_append (le_var 1) (le_acons (le_var 5) le_anil)))))))
 le_nil))))
 (le_one (le_ret (le_var 1)))))
/-! parts_within -/
abbrev s_parts_within : Stmt := top 32
theorem sc_parts_within : FnScope ["bill", "item", "within", "waiting", "pair", "other"] ["bill", "item"] (defScope s_parts_within) := ⟨rfl, rfl, rfl, by decide +kernel, rfl, by decide +kernel, by decide +kernel⟩
noncomputable def S_parts_within_1 : DS :=
 (sAsg 2 (eNew aNil))
noncomputable def S_parts_within_2 : DS :=
 (sAsg 3 (eLcA (eBin bIxA (eBin bIxA (eVar 0) (eVar 1)) (eCst (.int 1))) (.one 4) dYes (eBin bIxA (eVar 4) (eCst (.int 0))) [4]))
noncomputable def S_parts_within_4 : DS :=
 (sAsg 5 (eMt isLst mPop (eVar 3) aNil))
noncomputable def C_parts_within_5 : DT :=
 (dT (eBin (cInA true) (eVar 5) (eVar 2)))
noncomputable def S_parts_within_6 : DS :=
 (sExp (eMt isLst mAppend (eVar 2) (aCons (eVar 5) aNil)))
noncomputable def S_parts_within_7 : DS :=
 (sExp (eMt isLst mExtend (eVar 3) (aCons (eSeal (eLcA (eBin bIxA (eBin bIxA (eVar 0) (eVar 5)) (eCst (.int 1))) (.one 4) dYes (eBin bIxA (eVar 4) (eCst (.int 0))) [4])) aNil)))
noncomputable def S_parts_within_5 : DS :=
 (sIf C_parts_within_5
 (sSeq S_parts_within_6
 S_parts_within_7)
 sNil)
noncomputable def W_parts_within_3 : DT :=
 (dTA (eVar 3))
noncomputable def L_parts_within_3 : DS :=
 (sSeq S_parts_within_4
 S_parts_within_5)
noncomputable def S_parts_within_3 : DS :=
 (sWhile fuel W_parts_within_3 L_parts_within_3)
noncomputable def S_parts_within_8 : DS :=
 (sRet (eVar 2))
noncomputable def B_parts_within : DS :=
 (sSeq S_parts_within_1
 (sSeq S_parts_within_2
 (sSeq S_parts_within_3
 S_parts_within_8)))
noncomputable def F_parts_within : DF := runF 6 B_parts_within
theorem ok_parts_within (T : Tx K mg) : FnX P w K mg base "parts_within" 1 ["bill", "item"] F_parts_within :=
  fnX T.def_parts_within T.glo_parts_within sc_parts_within rfl (fun _ _ _ _ _ _ us hl => match us, hl with | [_, _], _ => rfl) fun f cdv A outer s H E hr =>
 (le_seq (le_set (i := 2) sc_parts_within.nd (le_new le_anil))
 (le_seq (le_setLcA (own := [("pair", 4)]) (g := (.one 4)) rfl sc_parts_within.nd (le_ix (ix_any (hu_of hr)) sv_ixA (le_ix (ix_any (hu_of hr)) sv_ixA (le_var 0) (le_var 1) (fun _ _ => rfl)) le_int (fun _ _ => rfl)) (blkOk_by (N := ["bill", "item", "within", "waiting", "pair", "other"]) (sc := defScope s_parts_within) (by decide +kernel)) (by decide) (sw_true rfl rfl rfl (by decide +kernel)) (fun _ _ _ _ _ => pg_name (i := 4) sc_parts_within.nd rfl (by first | exact Or.inl rfl | exact Or.inr rfl)) (fun _ _ _ _ _ => le_pts0) (fun _ _ _ _ _ => (le_ix (ix_any (hu_of hr)) sv_ixA (le_var 4) le_int (fun _ _ => rfl))))
 (le_seq (le_while fuel (passes_of rfl) (le_tru (le_var 3))
 (le_seq (le_set (i := 5) sc_parts_within.nd (le_mt0 PySem.F.plainAttrs_list PySem.F.slot_list_pop PySem.F.type_list_pop mt_pop knd_lst sm_pop (le_var 3)))
 (le_one (le_if (le_tcmp (op_notInD (hu_of hr)) (sv_inD true) (le_var 5) (le_var 2) (by rfl))
 (le_seq (le_exp (le_mt PySem.F.plainAttrs_list PySem.F.slot_list_append PySem.F.type_list_append mt_append knd_lst sm_append (le_var 2) (le_acons (le_var 5) le_anil)))
 (le_one (le_exp (le_mt PySem.F.plainAttrs_list PySem.F.slot_list_extend PySem.F.type_list_extend mt_extend knd_lst sm_extend (le_var 3) (le_acons (le_seal (le_lcA (own := [("pair", 4)]) (g := (.one 4)) rfl sc_parts_within.nd (le_ix (ix_any (hu_of hr)) sv_ixA (le_ix (ix_any (hu_of hr)) sv_ixA (le_var 0) (le_var 5) (fun _ _ => rfl)) le_int (fun _ _ => rfl)) (blkOk_by (N := ["bill", "item", "within", "waiting", "pair", "other"]) (sc := defScope s_parts_within) (by decide +kernel)) (by decide) (fun _ _ _ _ _ => pg_name (i := 4) sc_parts_within.nd rfl (by first | exact Or.inl rfl | exact Or.inr rfl)) (fun _ _ _ _ _ => le_pts0) (fun _ _ _ _ _ => (le_ix (ix_any (hu_of hr)) sv_ixA (le_var 4) le_int (fun _ _ => rfl))))) le_anil)))))
 le_nil))))
 (le_one (le_ret (le_var 2))))))
/-! check_loops -/
abbrev s_check_loops : Stmt := top 31
theorem sc_check_loops : FnScope ["rows", "bill", "item", "row"] ["rows", "bill"] (defScope s_check_loops) := ⟨rfl, rfl, rfl, by decide +kernel, rfl, by decide +kernel, by decide +kernel⟩
noncomputable def C_check_loops_2 : DT :=
 (dT (eBin (cInA false) (eVar 2) (eCall F_parts_within (aCons (eVar 1) (aCons (eVar 2) aNil)))))
noncomputable def S_check_loops_3 : DS :=
 (sRaise "BillFault" ["line", "place", "word"] (aCons (eBin bIxA (eVar 3) (eCst (.int 0))) (aCons (eCst (.int 0)) (aCons (eCst (.str (lit "loop"))) aNil))))
noncomputable def S_check_loops_2 : DS :=
 (sIf C_check_loops_2
 S_check_loops_3
 sNil)
noncomputable def L_check_loops_1 : DS :=
 S_check_loops_2
noncomputable def S_check_loops_1 : DS :=
 (sFor (gT (gsCons (gN 2) (gsCons (gN 3) gsNil))) (iEnA (aCons (eVar 0) aNil)) L_check_loops_1)
noncomputable def B_check_loops : DS :=
 S_check_loops_1
noncomputable def F_check_loops : DF := runF 4 B_check_loops
theorem ok_check_loops (T : Tx K mg) : FnX P w K mg base "check_loops" 3 ["rows", "bill"] F_check_loops :=
  fnX T.def_check_loops T.glo_check_loops sc_check_loops rfl (fun _ _ _ _ _ _ us hl => match us, hl with | [_, _], _ => rfl) fun f cdv A outer s H E hr =>
 (le_one (le_for (passes_of rfl) rfl (le_enA (by rfl) (T.free_enumerate) (le_acons (le_var 0) le_anil)) (le_gtup rfl (le_gcons (le_gname (i := 2) sc_check_loops.nd) (le_gcons (le_gname (i := 3) sc_check_loops.nd) le_gnil)))
 (le_one (le_if (le_tcmp (op_inD (hu_of hr)) (sv_inD false) (le_var 2) (le_callX (ok_parts_within T) (takes_of rfl rfl rfl rfl) (hr.mono (by decide)) (by rfl) (le_acons (le_var 1) (le_acons (le_var 2) le_anil)) (fun _ _ _ _ h => len_cons (fun _ _ _ _ h => len_cons (fun _ _ _ _ h => len_nil h) h) h)) (by rfl))
 (le_one (le_raise T.exc_BillFault T.glo_BillFault (ok_exc_BillFault T) (hr.mono (by decide)) rfl (takes_of rfl rfl rfl rfl) (by rfl) (le_acons (le_ix (ix_any (hu_of hr)) sv_ixA (le_var 3) le_int (fun _ _ => rfl)) (le_acons le_int (le_acons le_lit le_anil)))))
 le_nil))))
/-! numbered_parts -/
abbrev s_numbered_parts : Stmt := top 30
theorem sc_numbered_parts : FnScope ["line", "parts", "numbers", "pairs", "place", "name", "quantity"] ["line", "parts", "numbers"] (defScope s_numbered_parts) := ⟨rfl, rfl, rfl, by decide +kernel, rfl, by decide +kernel, by decide +kernel⟩
noncomputable def S_numbered_parts_1 : DS :=
 (sAsg 3 (eNew aNil))
noncomputable def C_numbered_parts_3 : DT :=
 (dT (eBin (cInA true) (eVar 5) (eVar 2)))
noncomputable def S_numbered_parts_4 : DS :=
 (sRaise "BillFault" ["line", "place", "word"] (aCons (eVar 0) (aCons (eVar 4) (aCons (eCst (.str (lit "unknown"))) aNil))))
noncomputable def S_numbered_parts_3 : DS :=
 (sIf C_numbered_parts_3
 S_numbered_parts_4
 sNil)
noncomputable def S_numbered_parts_5 : DS :=
 (sExp (eMt isLst mAppend (eVar 3) (aCons (eTup (aCons (eBin bIxA (eVar 2) (eVar 5)) (aCons (eVar 6) aNil))) aNil)))
noncomputable def L_numbered_parts_2 : DS :=
 (sSeq S_numbered_parts_3
 S_numbered_parts_5)
noncomputable def S_numbered_parts_2 : DS :=
 (sForA (gT (gsCons (gN 4) (gsCons (gN 5) (gsCons (gN 6) gsNil)))) (eVar 1) L_numbered_parts_2)
noncomputable def S_numbered_parts_6 : DS :=
 (sRet (eApp fTuple (aCons (eVar 3) aNil)))
noncomputable def B_numbered_parts : DS :=
 (sSeq S_numbered_parts_1
 (sSeq S_numbered_parts_2
 S_numbered_parts_6))
noncomputable def F_numbered_parts : DF := runF 7 B_numbered_parts
theorem ok_numbered_parts (T : Tx K mg) : FnX P w K mg base "numbered_parts" 3 ["line", "parts", "numbers"] F_numbered_parts :=
  fnX T.def_numbered_parts T.glo_numbered_parts sc_numbered_parts rfl (fun _ _ _ _ _ _ us hl => match us, hl with | [_, _, _], _ => rfl) fun f cdv A outer s H E hr =>
 (le_seq (le_set (i := 3) sc_numbered_parts.nd (le_new le_anil))
 (le_seq (le_forA (passes_of rfl) rfl (le_var 1) (le_gtup rfl (le_gcons (le_gname (i := 4) sc_numbered_parts.nd) (le_gcons (le_gname (i := 5) sc_numbered_parts.nd) (le_gcons (le_gname (i := 6) sc_numbered_parts.nd) le_gnil))))
 (le_seq (le_if (le_tcmp (op_notInD (hu_of hr)) (sv_inD true) (le_var 5) (le_var 2) (by rfl))
 (le_one (le_raise T.exc_BillFault T.glo_BillFault (ok_exc_BillFault T) (hr.mono (by decide)) rfl (takes_of rfl rfl rfl rfl) (by rfl) (le_acons (le_var 0) (le_acons (le_var 4) (le_acons le_lit le_anil)))))
 le_nil)
 (le_one (le_exp (le_mt PySem.F.plainAttrs_list PySem.F.slot_list_append PySem.F.type_list_append mt_append knd_lst sm_append (le_var 3) (le_acons (le_tup (le_acons (le_ix (ix_any (hu_of hr)) sv_ixA (le_var 2) (le_var 5) (fun _ _ => rfl)) (le_acons (le_var 6) le_anil))) le_anil))))))
 (le_one (le_ret (le_callTy call_tuple_of sv_tuple (by rfl) (T.free_tuple) (by decide +kernel) (le_acons (le_var 3) le_anil))))))
/-! read_bill -/
abbrev s_read_bill : Stmt := top 25
theorem sc_read_bill : FnScope ["text", "rows", "numbers", "item", "row", "bill", "line", "name", "parts", "lead", "lot", "good"] ["text"] (defScope s_read_bill) := ⟨rfl, rfl, rfl, by decide +kernel, rfl, by decide +kernel, by decide +kernel⟩
noncomputable def S_read_bill_1 : DS :=
 (sAsg 1 (eCall F_read_rows (aCons (eVar 0) aNil)))
noncomputable def S_read_bill_2 : DS :=
 (sAsg 2 (eSeal (eDcN (iEnA (aCons (eVar 1) aNil)) (.tup [3, 4]) dYes (eBin bIxA (eVar 4) (eCst (.int 1))) (eVar 3) [3, 4])))
noncomputable def S_read_bill_3 : DS :=
 (sAsg 5 (eApp fTuple (aCons (eSeal (eLcA (eVar 1) (.tup [6, 7, 8, 9, 10, 11]) dYes (eTup (aCons (eVar 7) (aCons (eCall F_numbered_parts (aCons (eVar 6) (aCons (eVar 8) (aCons (eVar 2) aNil)))) (aCons (eVar 9) (aCons (eVar 10) (aCons (eVar 11) aNil)))))) [6, 7, 8, 9, 10, 11])) aNil)))
noncomputable def S_read_bill_4 : DS :=
 (sExp (eCall F_check_loops (aCons (eVar 1) (aCons (eVar 5) aNil))))
noncomputable def S_read_bill_5 : DS :=
 (sRet (eVar 5))
noncomputable def B_read_bill : DS :=
 (sSeq S_read_bill_1
 (sSeq S_read_bill_2
 (sSeq S_read_bill_3
 (sSeq S_read_bill_4
 S_read_bill_5))))
noncomputable def F_read_bill : DF := runF 12 B_read_bill
theorem ok_read_bill (T : Tx K mg) : FnX P w K mg base "read_bill" 9 ["text"] F_read_bill :=
  fnX T.def_read_bill T.glo_read_bill sc_read_bill rfl (fun _ _ _ _ _ _ us hl => match us, hl with | [_], _ => rfl) fun f cdv A outer s H E hr =>
 (le_seq (le_set (i := 1) sc_read_bill.nd (le_callX (ok_read_rows T) (takes_of rfl rfl rfl rfl) (hr.mono (by decide)) (by rfl) (le_acons (le_var 0) le_anil) (fun _ _ _ _ h => len_cons (fun _ _ _ _ h => len_nil h) h)))
 (le_seq (le_set (i := 2) sc_read_bill.nd (le_seal (le_dc (own := [("item", 3), ("row", 4)]) (g := (.tup [3, 4])) rfl sc_read_bill.nd (le_enA (by rfl) (T.free_enumerate) (le_acons (le_var 1) le_anil)) (blkOk_by (N := ["text", "rows", "numbers", "item", "row", "bill", "line", "name", "parts", "lead", "lot", "good"]) (sc := defScope s_read_bill) (by decide +kernel)) (by decide) (fun _ _ _ _ _ => pg_tup rfl (pgs_cons (pg_name (i := 3) sc_read_bill.nd rfl (by first | exact Or.inl rfl | exact Or.inr rfl)) (pgs_cons (pg_name (i := 4) sc_read_bill.nd rfl (by first | exact Or.inl rfl | exact Or.inr rfl)) pgs_nil))) (fun _ _ _ _ _ => le_pts0) (fun _ _ _ _ _ => (le_ix (ix_any (hu_of hr)) sv_ixA (le_var 4) le_int (fun _ _ => rfl))) (fun _ _ _ _ _ => (le_var 3)))))
 (le_seq (le_set (i := 5) sc_read_bill.nd (le_callTy call_tuple_of sv_tuple (by rfl) (T.free_tuple) (by decide +kernel) (le_acons (le_seal (le_lcA (own := [("line", 6), ("name", 7), ("parts", 8), ("lead", 9), ("lot", 10), ("good", 11)]) (g := (.tup [6, 7, 8, 9, 10, 11])) rfl sc_read_bill.nd (le_var 1) (blkOk_by (N := ["text", "rows", "numbers", "item", "row", "bill", "line", "name", "parts", "lead", "lot", "good"]) (sc := defScope s_read_bill) (by decide +kernel)) (by decide) (fun _ _ _ _ _ => pg_tup rfl (pgs_cons (pg_name (i := 6) sc_read_bill.nd rfl (by first | exact Or.inl rfl | exact Or.inr rfl)) (pgs_cons (pg_name (i := 7) sc_read_bill.nd rfl (by first | exact Or.inl rfl | exact Or.inr rfl)) (pgs_cons (pg_name (i := 8) sc_read_bill.nd rfl (by first | exact Or.inl rfl | exact Or.inr rfl)) (pgs_cons (pg_name (i := 9) sc_read_bill.nd rfl (by first | exact Or.inl rfl | exact Or.inr rfl)) (pgs_cons (pg_name (i := 10) sc_read_bill.nd rfl (by first | exact Or.inl rfl | exact Or.inr rfl)) (pgs_cons (pg_name (i := 11) sc_read_bill.nd rfl (by first | exact Or.inl rfl | exact Or.inr rfl)) pgs_nil))))))) (fun _ _ _ _ _ => le_pts0) (fun _ _ _ _ _ => (le_tup (le_acons (le_var 7) (le_acons (le_callX (ok_numbered_parts T) takesN (hr.mono (by decide)) (by rfl) (le_acons (le_var 6) (le_acons (le_var 8) (le_acons (le_var 2) le_anil))) (fun _ _ _ _ h => len_cons (fun _ _ _ _ h => len_cons (fun _ _ _ _ h => len_cons (fun _ _ _ _ h => len_nil h) h) h) h)) (le_acons (le_var 9) (le_acons (le_var 10) (le_acons (le_var 11) le_anil))))))))) le_anil)))
 (le_seq (le_exp (le_callX (ok_check_loops T) (takes_of rfl rfl rfl rfl) (hr.mono (by decide)) (by rfl) (le_acons (le_var 1) (le_acons (le_var 5) le_anil)) (fun _ _ _ _ h => len_cons (fun _ _ _ _ h => len_cons (fun _ _ _ _ h => len_nil h) h) h)))
 (le_one (le_ret (le_var 5)))))))
/-! _law_cell -/
abbrev s__law_cell : Stmt := top 34
theorem sc__law_cell : FnScope ["script", "k"] ["script", "k"] (defScope s__law_cell) := ⟨rfl, rfl, rfl, by decide +kernel, rfl, by decide +kernel, by decide +kernel⟩
noncomputable def C__law_cell_1 : DT :=
 (dT (eBin cLt (eVar 1) (eApp fLen (aCons (eVar 0) aNil))))
noncomputable def S__law_cell_2 : DS :=
 (sRet (eBin bIxA (eVar 0) (eVar 1)))
noncomputable def S__law_cell_1 : DS :=
 (sIf C__law_cell_1
 S__law_cell_2
 sNil)
noncomputable def S__law_cell_3 : DS :=
 (sRet (eCst (.int 0)))
noncomputable def B__law_cell : DS :=
 (sSeq S__law_cell_1
 S__law_cell_3)
noncomputable def F__law_cell : DF := runF 2 B__law_cell
theorem ok__law_cell (T : Tx K mg) : FnX P w K mg base "_law_cell" 1 ["script", "k"] F__law_cell :=
  fnX T.def__law_cell T.glo__law_cell sc__law_cell rfl (fun _ _ _ _ _ _ us hl => match us, hl with | [_, _], _ => rfl) fun f cdv A outer s H E hr =>
 (le_seq (le_if (le_tcmp op_lt sv_lt (le_var 1) (le_callB call_len sv_len (by rfl) (T.free_len) (by decide +kernel) (le_acons (le_var 0) le_anil)) (nomark _))
 (le_one (le_ret (le_ix (ix_any (hu_of hr)) sv_ixA (le_var 0) (le_var 1) (fun _ _ => rfl))))
 le_nil)
 (le_one (le_ret le_int)))
/-! _law_digits -/
abbrev s__law_digits : Stmt := top 35
theorem sc__law_digits : FnScope ["script", "first", "last", "digits", "k", "cell", "turn", "seed"] ["script", "first", "last"] (defScope s__law_digits) := ⟨rfl, rfl, rfl, by decide +kernel, rfl, by decide +kernel, by decide +kernel⟩
noncomputable def S__law_digits_1 : DS :=
 (sAsg 3 (eNew aNil))
noncomputable def S__law_digits_3 : DS :=
 (sAsg 5 (eCall F__law_cell (aCons (eVar 0) (aCons (eVar 4) aNil))))
noncomputable def C__law_digits_4 : DT :=
 (dT (eBin cLt (eVar 5) (eCst (.int 0))))
noncomputable def S__law_digits_5 : DS :=
 (sAsg 5 (eBin bSub (eCst (.int 1)) (eBin bMul (eCst (.int 2)) (eVar 5))))
noncomputable def S__law_digits_4 : DS :=
 (sIf C__law_digits_4
 S__law_digits_5
 sNil)
noncomputable def C__law_digits_6 : DT :=
 (dT (eBin cGe (eVar 5) (eBin bPow (eCst (.int 10)) (eCst (.int 18)))))
noncomputable def C__law_digits_8 : DT :=
 (dT (eBin cGt (eVar 5) (eCst (.int 0))))
noncomputable def S__law_digits_9 : DS :=
 (sExp (eMt isLst mAppend (eVar 3) (aCons (eBin bMod (eApp fInt (aCons (eVar 5) aNil)) (eCst (.int 1000))) aNil)))
noncomputable def S__law_digits_10 : DS :=
 (sAsg 5 (eBin bFdiv (eVar 5) (eCst (.int 1000))))
noncomputable def S__law_digits_8 : DS :=
 (sIf C__law_digits_8
 (sSeq S__law_digits_9
 S__law_digits_10)
 sNil)
noncomputable def L__law_digits_7 : DS :=
 S__law_digits_8
noncomputable def S__law_digits_7 : DS :=
 (sFor (gN 6) (iRg1 (aCons (eCst (.int 60)) aNil)) L__law_digits_7)
noncomputable def S__law_digits_12 : DS :=
 (sAsg 7 (eBin bMod (eApp fInt (aCons (eBin bAdd (eBin bAdd (eBin bMul (eVar 5) (eCst (.int 48271))) (eBin bMul (eVar 4) (eCst (.int 69621)))) (eCst (.int 11))) aNil)) (eCst (.int 2147483647))))
noncomputable def S__law_digits_14 : DS :=
 (sAsg 7 (eBin bMod (eApp fInt (aCons (eBin bAdd (eBin bAdd (eBin bMul (eVar 7) (eCst (.int 16807))) (eBin bMul (eCst (.int 7)) (eVar 6))) (eCst (.int 1))) aNil)) (eCst (.int 2147483647))))
noncomputable def S__law_digits_15 : DS :=
 (sExp (eMt isLst mAppend (eVar 3) (aCons (eBin bMod (eApp fInt (aCons (eBin bFdiv (eVar 7) (eCst (.int 997))) aNil)) (eCst (.int 1000))) aNil)))
noncomputable def L__law_digits_13 : DS :=
 (sSeq S__law_digits_14
 S__law_digits_15)
noncomputable def S__law_digits_13 : DS :=
 (sFor (gN 6) (iRg1 (aCons (eCst (.int 12)) aNil)) L__law_digits_13)
noncomputable def S__law_digits_6 : DS :=
 (sIf C__law_digits_6
 S__law_digits_7
 (sSeq S__law_digits_12
 S__law_digits_13))
noncomputable def L__law_digits_2 : DS :=
 (sSeq S__law_digits_3
 (sSeq S__law_digits_4
 S__law_digits_6))
noncomputable def S__law_digits_2 : DS :=
 (sFor (gN 4) (iRg2 (aCons (eVar 1) (aCons (eVar 2) aNil))) L__law_digits_2)
noncomputable def S__law_digits_16 : DS :=
 (sRet (eVar 3))
noncomputable def B__law_digits : DS :=
 (sSeq S__law_digits_1
 (sSeq S__law_digits_2
 S__law_digits_16))
noncomputable def F__law_digits : DF := runF 8 B__law_digits
theorem ok__law_digits (T : Tx K mg) : FnX P w K mg base "_law_digits" 2 ["script", "first", "last"] F__law_digits :=
  fnX T.def__law_digits T.glo__law_digits sc__law_digits rfl (fun _ _ _ _ _ _ us hl => match us, hl with | [_, _, _], _ => rfl) fun f cdv A outer s H E hr =>
 (le_seq (le_set (i := 3) sc__law_digits.nd (le_new le_anil))
 (le_seq (le_for (passes_of rfl) rfl (le_rg2 (by rfl) (T.free_range) (le_acons (le_var 1) (le_acons (le_var 2) le_anil))) (le_gname (i := 4) sc__law_digits.nd)
 (le_seq (le_set (i := 5) sc__law_digits.nd (le_callX (ok__law_cell T) (takes_of rfl rfl rfl rfl) (hr.mono (by decide)) (by rfl) (le_acons (le_var 0) (le_acons (le_var 4) le_anil)) (fun _ _ _ _ h => len_cons (fun _ _ _ _ h => len_cons (fun _ _ _ _ h => len_nil h) h) h)))
 (le_seq (le_if (le_tcmp op_lt sv_lt (le_var 5) le_int (nomark _))
 (le_one (le_set (i := 5) sc__law_digits.nd (le_op op_sub sv_sub le_int (le_op op_mulA sv_mul le_int (le_var 5)))))
 le_nil)
 (le_one (le_if (le_tcmp op_ge sv_ge (le_var 5) (le_op op_pow sv_pow le_int le_int) (nomark _))
 (le_one (le_for (passes_of rfl) rfl (le_rg1 (by rfl) (T.free_range) (le_acons le_int le_anil)) (le_gname (i := 6) sc__law_digits.nd)
 (le_one (le_if (le_tcmp op_gt sv_gt (le_var 5) le_int (nomark _))
 (le_seq (le_exp (le_mt PySem.F.plainAttrs_list PySem.F.slot_list_append PySem.F.type_list_append mt_append knd_lst sm_append (le_var 3) (le_acons (le_op op_mod sv_mod (le_callTy call_intA sv_int (by rfl) (T.free_int) (by decide +kernel) (le_acons (le_var 5) le_anil)) le_int) le_anil)))
 (le_one (le_set (i := 5) sc__law_digits.nd (le_op op_fdiv sv_fdiv (le_var 5) le_int))))
 le_nil))))
 (le_seq (le_set (i := 7) sc__law_digits.nd (le_op op_mod sv_mod (le_callTy call_intA sv_int (by rfl) (T.free_int) (by decide +kernel) (le_acons (le_op op_addA sv_add (le_op op_addA sv_add (le_op op_mulA sv_mul (le_var 5) le_int) (le_op op_mulA sv_mul (le_var 4) le_int)) le_int) le_anil)) le_int))
 (le_one (le_for (passes_of rfl) rfl (le_rg1 (by rfl) (T.free_range) (le_acons le_int le_anil)) (le_gname (i := 6) sc__law_digits.nd)
 (le_seq (le_set (i := 7) sc__law_digits.nd (le_op op_mod sv_mod (le_callTy call_intA sv_int (by rfl) (T.free_int) (by decide +kernel) (le_acons (le_op op_addA sv_add (le_op op_addA sv_add (le_op op_mulA sv_mul (le_var 7) le_int) (le_op op_mulA sv_mul le_int (le_var 6))) le_int) le_anil)) le_int))
 (le_one (le_exp (le_mt PySem.F.plainAttrs_list PySem.F.slot_list_append PySem.F.type_list_append mt_append knd_lst sm_append (le_var 3) (le_acons (le_op op_mod sv_mod (le_callTy call_intA sv_int (by rfl) (T.free_int) (by decide +kernel) (le_acons (le_op op_fdiv sv_fdiv (le_var 7) le_int) le_anil)) le_int) le_anil)))))))))))))
 (le_one (le_ret (le_var 3)))))
/-! _law_draw -/
abbrev s__law_draw : Stmt := top 36
theorem sc__law_draw : FnScope ["box", "many", "at"] ["box", "many"] (defScope s__law_draw) := ⟨rfl, rfl, rfl, by decide +kernel, rfl, by decide +kernel, by decide +kernel⟩
noncomputable def S__law_draw_1 : DS :=
 (sAsg 2 (eBin bIxA (eVar 0) (eCst (.int 1))))
noncomputable def S__law_draw_2 : DS :=
 (sSetIA (eVar 0) (eCst (.int 1)) (eBin bAdd (eVar 2) (eCst (.int 1))))
noncomputable def C__law_draw_3 : DT :=
 (dT (eBin cLt (eVar 2) (eApp fLen (aCons (eBin bIxA (eVar 0) (eCst (.int 0))) aNil))))
noncomputable def S__law_draw_4 : DS :=
 (sRet (eBin bMod (eApp fInt (aCons (eBin bIxA (eBin bIxA (eVar 0) (eCst (.int 0))) (eVar 2)) aNil)) (eVar 1)))
noncomputable def S__law_draw_3 : DS :=
 (sIf C__law_draw_3
 S__law_draw_4
 sNil)
noncomputable def S__law_draw_5 : DS :=
 (sRet (eCst (.int 0)))
noncomputable def B__law_draw : DS :=
 (sSeq S__law_draw_1
 (sSeq S__law_draw_2
 (sSeq S__law_draw_3
 S__law_draw_5)))
noncomputable def F__law_draw : DF := runF 3 B__law_draw
theorem ok__law_draw (T : Tx K mg) : FnX P w K mg base "_law_draw" 1 ["box", "many"] F__law_draw :=
  fnX T.def__law_draw T.glo__law_draw sc__law_draw rfl (fun _ _ _ _ _ _ us hl => match us, hl with | [_, _], _ => rfl) fun f cdv A outer s H E hr =>
 (le_seq (le_set (i := 2) sc__law_draw.nd (le_ix (ix_any (hu_of hr)) sv_ixA (le_var 0) le_int (fun _ _ => rfl)))
 (le_seq (le_setIA (hu_of hr) (le_op op_addA sv_add (le_var 2) le_int) (le_var 0) le_int (le_setI (le_op op_addA sv_add (le_var 2) le_int) (le_var 0) le_int))
 (le_seq (le_if (le_tcmp op_lt sv_lt (le_var 2) (le_callB call_len sv_len (by rfl) (T.free_len) (by decide +kernel) (le_acons (le_ix (ix_any (hu_of hr)) sv_ixA (le_var 0) le_int (fun _ _ => rfl)) le_anil)) (nomark _))
 (le_one (le_ret (le_op op_mod sv_mod (le_callTy call_intA sv_int (by rfl) (T.free_int) (by decide +kernel) (le_acons (le_ix (ix_any (hu_of hr)) sv_ixA (le_ix (ix_any (hu_of hr)) sv_ixA (le_var 0) le_int (fun _ _ => rfl)) (le_var 2) (fun _ _ => rfl)) le_anil)) (le_var 1))))
 le_nil)
 (le_one (le_ret le_int)))))
/-! _law_same -/
abbrev s__law_same : Stmt := top 37
theorem sc__law_same : FnScope ["actual", "due", "k"] ["actual", "due"] (defScope s__law_same) := ⟨rfl, rfl, rfl, by decide +kernel, rfl, by decide +kernel, by decide +kernel⟩
noncomputable def C__law_same_1 (F : DF) : DT :=
 (dOr (dT (eUn (fIsi "list") (eVar 1))) (dT (eUn (fIsi "tuple") (eVar 1))))
noncomputable def C__law_same_2 (F : DF) : DT :=
 (dOr (dT (eBin (cEqB true) (eUn (fIsi "list") (eVar 1)) (eUn (fIsi "list") (eVar 0)))) (dT (eBin (cEqB true) (eUn (fIsi "tuple") (eVar 1)) (eUn (fIsi "tuple") (eVar 0)))))
noncomputable def S__law_same_3 (F : DF) : DS :=
 (sRet (eCst (.bl false)))
noncomputable def S__law_same_2 (F : DF) : DS :=
 (sIf (C__law_same_2 F)
 (S__law_same_3 F)
 sNil)
noncomputable def C__law_same_4 (F : DF) : DT :=
 (dT (eBin (cEqB true) (eApp fLen (aCons (eVar 0) aNil)) (eApp fLen (aCons (eVar 1) aNil))))
noncomputable def S__law_same_5 (F : DF) : DS :=
 (sRet (eCst (.bl false)))
noncomputable def S__law_same_4 (F : DF) : DS :=
 (sIf (C__law_same_4 F)
 (S__law_same_5 F)
 sNil)
noncomputable def C__law_same_7 (F : DF) : DT :=
 (dNot (dT (eCall F (aCons (eBin bIxA (eVar 0) (eVar 2)) (aCons (eBin bIxA (eVar 1) (eVar 2)) aNil)))))
noncomputable def S__law_same_8 (F : DF) : DS :=
 (sRet (eCst (.bl false)))
noncomputable def S__law_same_7 (F : DF) : DS :=
 (sIf (C__law_same_7 F)
 (S__law_same_8 F)
 sNil)
noncomputable def L__law_same_6 (F : DF) : DS :=
 (S__law_same_7 F)
noncomputable def S__law_same_6 (F : DF) : DS :=
 (sFor (gN 2) (iRg1 (aCons (eApp fLen (aCons (eVar 1) aNil)) aNil)) (L__law_same_6 F))
noncomputable def S__law_same_9 (F : DF) : DS :=
 (sRet (eCst (.bl true)))
noncomputable def S__law_same_1 (F : DF) : DS :=
 (sIf (C__law_same_1 F)
 (sSeq (S__law_same_2 F)
 (sSeq (S__law_same_4 F)
 (sSeq (S__law_same_6 F)
 (S__law_same_9 F))))
 sNil)
noncomputable def C__law_same_10 (F : DF) : DT :=
 (dT (eUn (cIsN false) (eVar 1)))
noncomputable def S__law_same_11 (F : DF) : DS :=
 (sRet (eUn (cIsN false) (eVar 0)))
noncomputable def S__law_same_10 (F : DF) : DS :=
 (sIf (C__law_same_10 F)
 (S__law_same_11 F)
 sNil)
noncomputable def C__law_same_12 (F : DF) : DT :=
 (dT (eUn (fIsi "bool") (eVar 1)))
noncomputable def S__law_same_13 (F : DF) : DS :=
 (sRet (eAnd (eUn (fIsi "bool") (eVar 0)) (eBin (cEqB false) (eVar 0) (eVar 1))))
noncomputable def S__law_same_12 (F : DF) : DS :=
 (sIf (C__law_same_12 F)
 (S__law_same_13 F)
 sNil)
noncomputable def C__law_same_14 (F : DF) : DT :=
 (dT (eUn (fIsi "str") (eVar 1)))
noncomputable def S__law_same_15 (F : DF) : DS :=
 (sRet (eAnd (eUn (fIsi "str") (eVar 0)) (eBin (cEqB false) (eVar 0) (eVar 1))))
noncomputable def S__law_same_14 (F : DF) : DS :=
 (sIf (C__law_same_14 F)
 (S__law_same_15 F)
 sNil)
noncomputable def S__law_same_16 (F : DF) : DS :=
 (sRet (eAnd (eUn (fIsi "int") (eVar 0)) (eAnd (eNot (eUn (fIsi "bool") (eVar 0))) (eBin (cEqB false) (eVar 0) (eVar 1)))))
noncomputable def B__law_same (F : DF) : DS :=
 (sSeq (S__law_same_1 F)
 (sSeq (S__law_same_10 F)
 (sSeq (S__law_same_12 F)
 (sSeq (S__law_same_14 F)
 (S__law_same_16 F)))))
noncomputable def F__law_same : Nat → DF
  | 0 => fun _ _ => .bad
  | n + 1 => runF 3 (B__law_same (F__law_same n))
theorem ok__law_same (T : Tx K mg) : ∀ n, FnX P w K mg base "_law_same" (n + 1) ["actual", "due"] (F__law_same n)
  | 0 => fnX_bad T.def__law_same T.glo__law_same (fun _ _ _ _ _ _ us hl => match us, hl with | [_, _], _ => rfl)
  | n + 1 => fnX T.def__law_same T.glo__law_same sc__law_same rfl (fun _ _ _ _ _ _ us hl => match us, hl with | [_, _], _ => rfl) fun f cdv A outer s H E hr =>
  have OK : FnX P w K mg base "_law_same" (n + 1) ["actual", "due"] (F__law_same n) := ok__law_same T n
 (le_seq (le_if (L2.PW.pt (le_or (le_test (le_isi (T := "list") (by rfl) (T.free_isinstance) (by decide +kernel) (le_var 1) (by rfl) (T.free_list) (by decide +kernel))) (le_or1 (le_test (le_isi (T := "tuple") (by rfl) (T.free_isinstance) (by decide +kernel) (le_var 1) (by rfl) (T.free_tuple) (by decide +kernel))))))
 (le_seq (le_if (L2.PW.pt (le_or (le_tcmp (op_neA hr.units) sv_ne (le_isi (T := "list") (by rfl) (T.free_isinstance) (by decide +kernel) (le_var 1) (by rfl) (T.free_list) (by decide +kernel)) (le_isi (T := "list") (by rfl) (T.free_isinstance) (by decide +kernel) (le_var 0) (by rfl) (T.free_list) (by decide +kernel)) (nomark _)) (le_or1 (le_tcmp (op_neA hr.units) sv_ne (le_isi (T := "tuple") (by rfl) (T.free_isinstance) (by decide +kernel) (le_var 1) (by rfl) (T.free_tuple) (by decide +kernel)) (le_isi (T := "tuple") (by rfl) (T.free_isinstance) (by decide +kernel) (le_var 0) (by rfl) (T.free_tuple) (by decide +kernel)) (nomark _)))))
 (le_one (le_ret le_bl))
 le_nil)
 (le_seq (le_if (le_tcmp (op_neA hr.units) sv_ne (le_callB call_len sv_len (by rfl) (T.free_len) (by decide +kernel) (le_acons (le_var 0) le_anil)) (le_callB call_len sv_len (by rfl) (T.free_len) (by decide +kernel) (le_acons (le_var 1) le_anil)) (nomark _))
 (le_one (le_ret le_bl))
 le_nil)
 (le_seq (le_for (passes_of rfl) rfl (le_rg1 (by rfl) (T.free_range) (le_acons (le_callB call_len sv_len (by rfl) (T.free_len) (by decide +kernel) (le_acons (le_var 1) le_anil)) le_anil)) (le_gname (i := 2) sc__law_same.nd)
 (le_one (le_if (le_not (le_test (le_callX OK (takes_of rfl rfl rfl rfl) hr (by rfl) (le_acons (le_ix (ix_any (hu_of hr)) sv_ixA (le_var 0) (le_var 2) (fun _ _ => rfl)) (le_acons (le_ix (ix_any (hu_of hr)) sv_ixA (le_var 1) (le_var 2) (fun _ _ => rfl)) le_anil)) (fun _ _ _ _ h => len_cons (fun _ _ _ _ h => len_cons (fun _ _ _ _ h => len_nil h) h) h))))
 (le_one (le_ret le_bl))
 le_nil)))
 (le_one (le_ret le_bl)))))
 le_nil)
 (le_seq (le_if (le_tisN (le_var 1))
 (le_one (le_ret (le_isN (le_var 0))))
 le_nil)
 (le_seq (le_if (le_test (le_isi (T := "bool") (by rfl) (T.free_isinstance) (by decide +kernel) (le_var 1) (by rfl) (T.free_bool) (by decide +kernel)))
 (le_one (le_ret (le_andV (le_isi (T := "bool") (by rfl) (T.free_isinstance) (by decide +kernel) (le_var 0) (by rfl) (T.free_bool) (by decide +kernel)) (le_oneV (le_cmp (op_eqA hr.units) sv_eq (le_var 0) (le_var 1) (nomark _))))))
 le_nil)
 (le_seq (le_if (le_test (le_isi (T := "str") (by rfl) (T.free_isinstance) (by decide +kernel) (le_var 1) (by rfl) (T.free_str) (by decide +kernel)))
 (le_one (le_ret (le_andV (le_isi (T := "str") (by rfl) (T.free_isinstance) (by decide +kernel) (le_var 0) (by rfl) (T.free_str) (by decide +kernel)) (le_oneV (le_cmp (op_eqA hr.units) sv_eq (le_var 0) (le_var 1) (nomark _))))))
 le_nil)
 (le_one (le_ret (le_andV (le_isi (T := "int") (by rfl) (T.free_isinstance) (by decide +kernel) (le_var 0) (by rfl) (T.free_int) (by decide +kernel)) (le_andV (le_notV (le_isi (T := "bool") (by rfl) (T.free_isinstance) (by decide +kernel) (le_var 0) (by rfl) (T.free_bool) (by decide +kernel))) (le_oneV (le_cmp (op_eqA hr.units) sv_eq (le_var 0) (le_var 1) (nomark _)))))))))))
/-! _law_run -/
abbrev s__law_run : Stmt := top 38
theorem sc__law_run : FnScope ["box", "many", "chars", "text", "k"] ["box", "many", "chars"] (defScope s__law_run) := ⟨rfl, rfl, rfl, by decide +kernel, rfl, by decide +kernel, by decide +kernel⟩
noncomputable def S__law_run_1 : DS :=
 (sAsg 3 (eCst (.str (lit ""))))
noncomputable def S__law_run_3 : DS :=
 (sAsg 3 (eBin bAdd (eVar 3) (eBin bIxA (eVar 2) (eCall F__law_draw (aCons (eVar 0) (aCons (eApp fLen (aCons (eVar 2) aNil)) aNil))))))
noncomputable def L__law_run_2 : DS :=
 S__law_run_3
noncomputable def S__law_run_2 : DS :=
 (sFor (gN 4) (iRg1 (aCons (eVar 1) aNil)) L__law_run_2)
noncomputable def S__law_run_4 : DS :=
 (sRet (eVar 3))
noncomputable def B__law_run : DS :=
 (sSeq S__law_run_1
 (sSeq S__law_run_2
 S__law_run_4))
noncomputable def F__law_run : DF := runF 5 B__law_run
theorem ok__law_run (T : Tx K mg) : FnX P w K mg base "_law_run" 2 ["box", "many", "chars"] F__law_run :=
  fnX T.def__law_run T.glo__law_run sc__law_run rfl (fun _ _ _ _ _ _ us hl => match us, hl with | [_, _, _], _ => rfl) fun f cdv A outer s H E hr =>
 (le_seq (le_set (i := 3) sc__law_run.nd le_lit)
 (le_seq (le_for (passes_of rfl) rfl (le_rg1 (by rfl) (T.free_range) (le_acons (le_var 1) le_anil)) (le_gname (i := 4) sc__law_run.nd)
 (le_one (le_set (i := 3) sc__law_run.nd (le_op op_addA sv_add (le_var 3) (le_ix (ix_any (hu_of hr)) sv_ixA (le_var 2) (le_callX (ok__law_draw T) (takes_of rfl rfl rfl rfl) (hr.mono (by decide)) (by rfl) (le_acons (le_var 0) (le_acons (le_callB call_len sv_len (by rfl) (T.free_len) (by decide +kernel) (le_acons (le_var 2) le_anil)) le_anil)) (fun _ _ _ _ h => len_cons (fun _ _ _ _ h => len_cons (fun _ _ _ _ h => len_nil h) h) h)) (fun _ _ => rfl))))))
 (le_one (le_ret (le_var 3)))))
/-! _law_name -/
abbrev s__law_name : Stmt := top 39
theorem sc__law_name : FnScope ["box", "taken", "name", "turn"] ["box", "taken"] (defScope s__law_name) := ⟨rfl, rfl, rfl, by decide +kernel, rfl, by decide +kernel, by decide +kernel⟩
noncomputable def S__law_name_1 : DS :=
 (sAsg 2 (eBin bIxA (eLst (aCons (eCst (.str (lit "wheel"))) (aCons (eCst (.str (lit "frame"))) (aCons (eCst (.str (lit "bicycle"))) (aCons (eCst (.str (lit "days"))) (aCons (eCst (.str (lit "yields"))) (aCons (eCst (.str (lit "a"))) (aCons (eCst (.str (lit "b"))) (aCons (eCst (.str (lit "spoke"))) aNil))))))))) (eCall F__law_draw (aCons (eVar 0) (aCons (eCst (.int 8)) aNil)))))
noncomputable def C__law_name_2 : DT :=
 (dT (eBin (cEqB false) (eCall F__law_draw (aCons (eVar 0) (aCons (eCst (.int 2)) aNil))) (eCst (.int 0))))
noncomputable def S__law_name_3 : DS :=
 (sAsg 2 (eCall F__law_run (aCons (eVar 0) (aCons (eBin bAdd (eCst (.int 1)) (eCall F__law_draw (aCons (eVar 0) (aCons (eBin bIxA (eLst (aCons (eCst (.int 3)) (aCons (eCst (.int 9)) aNil))) (eCall F__law_draw (aCons (eVar 0) (aCons (eCst (.int 2)) aNil)))) aNil)))) (aCons (eCst (.str (lit "abcdefghijklmnopqrstuvwxyz"))) aNil)))))
noncomputable def S__law_name_2 : DS :=
 (sIf C__law_name_2
 S__law_name_3
 sNil)
noncomputable def C__law_name_5 : DT :=
 (dT (eBin (cInA false) (eVar 2) (eVar 1)))
noncomputable def S__law_name_6 : DS :=
 (sAsg 2 (eBin bAdd (eSl (eVar 2) oNone (oSome (eCst (.int 11)))) (eBin bIxA (eCst (.str (lit "abcdefghi"))) (eVar 3))))
noncomputable def S__law_name_5 : DS :=
 (sIf C__law_name_5
 S__law_name_6
 sNil)
noncomputable def L__law_name_4 : DS :=
 S__law_name_5
noncomputable def S__law_name_4 : DS :=
 (sFor (gN 3) (iRg1 (aCons (eCst (.int 9)) aNil)) L__law_name_4)
noncomputable def S__law_name_7 : DS :=
 (sRet (eVar 2))
noncomputable def B__law_name : DS :=
 (sSeq S__law_name_1
 (sSeq S__law_name_2
 (sSeq S__law_name_4
 S__law_name_7)))
noncomputable def F__law_name : DF := runF 4 B__law_name
theorem ok__law_name (T : Tx K mg) : FnX P w K mg base "_law_name" 3 ["box", "taken"] F__law_name :=
  fnX T.def__law_name T.glo__law_name sc__law_name rfl (fun _ _ _ _ _ _ us hl => match us, hl with | [_, _], _ => rfl) fun f cdv A outer s H E hr =>
 (le_seq (le_set (i := 2) sc__law_name.nd (le_ix (ix_any (hu_of hr)) sv_ixA (le_lst (le_acons le_lit (le_acons le_lit (le_acons le_lit (le_acons le_lit (le_acons le_lit (le_acons le_lit (le_acons le_lit (le_acons le_lit le_anil))))))))) (le_callX (ok__law_draw T) (takes_of rfl rfl rfl rfl) (hr.mono (by decide)) (by rfl) (le_acons (le_var 0) (le_acons le_int le_anil)) (fun _ _ _ _ h => len_cons (fun _ _ _ _ h => len_cons (fun _ _ _ _ h => len_nil h) h) h)) (fun _ _ => rfl)))
 (le_seq (le_if (le_tcmp (op_eqA hr.units) sv_eq (le_callX (ok__law_draw T) (takes_of rfl rfl rfl rfl) (hr.mono (by decide)) (by rfl) (le_acons (le_var 0) (le_acons le_int le_anil)) (fun _ _ _ _ h => len_cons (fun _ _ _ _ h => len_cons (fun _ _ _ _ h => len_nil h) h) h)) le_int (nomark _))
 (le_one (le_set (i := 2) sc__law_name.nd (le_callX (ok__law_run T) (takes_of rfl rfl rfl rfl) (hr.mono (by decide)) (by rfl) (le_acons (le_var 0) (le_acons (le_op op_addA sv_add le_int (le_callX (ok__law_draw T) (takes_of rfl rfl rfl rfl) (hr.mono (by decide)) (by rfl) (le_acons (le_var 0) (le_acons (le_ix (ix_any (hu_of hr)) sv_ixA (le_lst (le_acons le_int (le_acons le_int le_anil))) (le_callX (ok__law_draw T) (takes_of rfl rfl rfl rfl) (hr.mono (by decide)) (by rfl) (le_acons (le_var 0) (le_acons le_int le_anil)) (fun _ _ _ _ h => len_cons (fun _ _ _ _ h => len_cons (fun _ _ _ _ h => len_nil h) h) h)) (fun _ _ => rfl)) le_anil)) (fun _ _ _ _ h => len_cons (fun _ _ _ _ h => len_cons (fun _ _ _ _ h => len_nil h) h) h))) (le_acons le_lit le_anil))) (fun _ _ _ _ h => len_cons (fun _ _ _ _ h => len_cons (fun _ _ _ _ h => len_cons (fun _ _ _ _ h => len_nil h) h) h) h))))
 le_nil)
 (le_seq (le_for (passes_of rfl) rfl (le_rg1 (by rfl) (T.free_range) (le_acons le_int le_anil)) (le_gname (i := 3) sc__law_name.nd)
 (le_one (le_if (le_tcmp (op_inD (hu_of hr)) (sv_inD false) (le_var 2) (le_var 1) (by rfl))
 (le_one (le_set (i := 2) sc__law_name.nd (le_op op_addA sv_add (le_sl (le_var 2) le_onone (le_osome le_int)) (le_ix (ix_any (hu_of hr)) sv_ixA le_lit (le_var 3) (fun _ _ => rfl)))))
 le_nil)))
 (le_one (le_ret (le_var 2))))))
/-! _law_bill -/
abbrev s__law_bill : Stmt := top 40
theorem sc__law_bill : FnScope ["box", "most", "count", "names", "k", "ranks", "at", "items", "below", "parts", "turn", "quantity", "lead", "lot"] ["box", "most"] (defScope s__law_bill) := ⟨rfl, rfl, rfl, by decide +kernel, rfl, by decide +kernel, by decide +kernel⟩
noncomputable def S__law_bill_1 : DS :=
 (sAsg 2 (eBin bAdd (eCst (.int 1)) (eCall F__law_draw (aCons (eVar 0) (aCons (eVar 1) aNil)))))
noncomputable def S__law_bill_2 : DS :=
 (sAsg 3 (eNew aNil))
noncomputable def S__law_bill_4 : DS :=
 (sExp (eMt isLst mAppend (eVar 3) (aCons (eCall F__law_name (aCons (eVar 0) (aCons (eVar 3) aNil))) aNil)))
noncomputable def L__law_bill_3 : DS :=
 S__law_bill_4
noncomputable def S__law_bill_3 : DS :=
 (sFor (gN 4) (iRg1 (aCons (eVar 2) aNil)) L__law_bill_3)
noncomputable def S__law_bill_5 : DS :=
 (sAsg 5 (eLst aNil))
noncomputable def S__law_bill_7 : DS :=
 (sAsg 6 (eCall F__law_draw (aCons (eVar 0) (aCons (eBin bAdd (eApp fLen (aCons (eVar 5) aNil)) (eCst (.int 1))) aNil))))
noncomputable def S__law_bill_8 : DS :=
 (sAsg 5 (eBin bAdd (eBin bAdd (eSl (eVar 5) oNone (oSome (eVar 6))) (eLst (aCons (eVar 4) aNil))) (eSl (eVar 5) (oSome (eVar 6)) oNone)))
noncomputable def L__law_bill_6 : DS :=
 (sSeq S__law_bill_7
 S__law_bill_8)
noncomputable def S__law_bill_6 : DS :=
 (sFor (gN 4) (iRg1 (aCons (eVar 2) aNil)) L__law_bill_6)
noncomputable def S__law_bill_9 : DS :=
 (sAsg 7 (eNew aNil))
noncomputable def S__law_bill_11 : DS :=
 (sAsg 8 (eSl (eVar 5) oNone (oSome (eMt isLst mIndex (eVar 5) (aCons (eVar 4) aNil)))))
noncomputable def S__law_bill_12 : DS :=
 (sAsg 9 (eNew aNil))
noncomputable def C__law_bill_14 : DT :=
 (dT (eBin cGt (eApp fLen (aCons (eVar 8) aNil)) (eCst (.int 0))))
noncomputable def S__law_bill_15 : DS :=
 (sAsg 11 (eBin bAdd (eCst (.int 1)) (eCall F__law_draw (aCons (eVar 0) (aCons (eCst (.int 3)) aNil)))))
noncomputable def C__law_bill_16 : DT :=
 (dT (eBin (cEqB false) (eCall F__law_draw (aCons (eVar 0) (aCons (eCst (.int 9)) aNil))) (eCst (.int 0))))
noncomputable def S__law_bill_17 : DS :=
 (sAsg 11 (eCst (.int 20)))
noncomputable def S__law_bill_16 : DS :=
 (sIf C__law_bill_16
 S__law_bill_17
 sNil)
noncomputable def S__law_bill_18 : DS :=
 (sExp (eMt isLst mAppend (eVar 9) (aCons (eTup (aCons (eBin bIxA (eVar 8) (eCall F__law_draw (aCons (eVar 0) (aCons (eApp fLen (aCons (eVar 8) aNil)) aNil)))) (aCons (eVar 11) aNil))) aNil)))
noncomputable def S__law_bill_14 : DS :=
 (sIf C__law_bill_14
 (sSeq S__law_bill_15
 (sSeq S__law_bill_16
 S__law_bill_18))
 sNil)
noncomputable def L__law_bill_13 : DS :=
 S__law_bill_14
noncomputable def S__law_bill_13 : DS :=
 (sFor (gN 10) (iRg1 (aCons (eCall F__law_draw (aCons (eVar 0) (aCons (eCst (.int 5)) aNil))) aNil)) L__law_bill_13)
noncomputable def S__law_bill_19 : DS :=
 (sAsg 12 (eBin bIxA (eLst (aCons (eCall F__law_draw (aCons (eVar 0) (aCons (eCst (.int 5)) aNil))) (aCons (eCall F__law_draw (aCons (eVar 0) (aCons (eCst (.int 11)) aNil))) aNil))) (eBin bFdiv (eCall F__law_draw (aCons (eVar 0) (aCons (eCst (.int 5)) aNil))) (eCst (.int 4)))))
noncomputable def S__law_bill_20 : DS :=
 (sAsg 13 (eBin bIxA (eLst (aCons (eBin bAdd (eCst (.int 1)) (eCall F__law_draw (aCons (eVar 0) (aCons (eCst (.int 6)) aNil)))) (aCons (eBin bAdd (eCst (.int 1)) (eCall F__law_draw (aCons (eVar 0) (aCons (eCst (.int 50)) aNil)))) aNil))) (eBin bFdiv (eCall F__law_draw (aCons (eVar 0) (aCons (eCst (.int 5)) aNil))) (eCst (.int 4)))))
noncomputable def S__law_bill_21 : DS :=
 (sExp (eMt isLst mAppend (eVar 7) (aCons (eTup (aCons (eBin bIxA (eVar 3) (eVar 4)) (aCons (eApp fTuple (aCons (eVar 9) aNil)) (aCons (eVar 12) (aCons (eVar 13) (aCons (eBin bAdd (eCst (.int 1)) (eCall F__law_draw (aCons (eVar 0) (aCons (eVar 13) aNil)))) aNil)))))) aNil)))
noncomputable def L__law_bill_10 : DS :=
 (sSeq S__law_bill_11
 (sSeq S__law_bill_12
 (sSeq S__law_bill_13
 (sSeq S__law_bill_19
 (sSeq S__law_bill_20
 S__law_bill_21)))))
noncomputable def S__law_bill_10 : DS :=
 (sFor (gN 4) (iRg1 (aCons (eVar 2) aNil)) L__law_bill_10)
noncomputable def S__law_bill_22 : DS :=
 (sRet (eApp fTuple (aCons (eVar 7) aNil)))
noncomputable def B__law_bill : DS :=
 (sSeq S__law_bill_1
 (sSeq S__law_bill_2
 (sSeq S__law_bill_3
 (sSeq S__law_bill_5
 (sSeq S__law_bill_6
 (sSeq S__law_bill_9
 (sSeq S__law_bill_10
 S__law_bill_22)))))))
noncomputable def F__law_bill : DF := runF 14 B__law_bill
theorem ok__law_bill (T : Tx K mg) : FnX P w K mg base "_law_bill" 4 ["box", "most"] F__law_bill :=
  fnX T.def__law_bill T.glo__law_bill sc__law_bill rfl (fun _ _ _ _ _ _ us hl => match us, hl with | [_, _], _ => rfl) fun f cdv A outer s H E hr =>
 (le_seq (le_set (i := 2) sc__law_bill.nd (le_op op_addA sv_add le_int (le_callX (ok__law_draw T) (takes_of rfl rfl rfl rfl) (hr.mono (by decide)) (by rfl) (le_acons (le_var 0) (le_acons (le_var 1) le_anil)) (fun _ _ _ _ h => len_cons (fun _ _ _ _ h => len_cons (fun _ _ _ _ h => len_nil h) h) h))))
 (le_seq (le_set (i := 3) sc__law_bill.nd (le_new le_anil))
 (le_seq (le_for (passes_of rfl) rfl (le_rg1 (by rfl) (T.free_range) (le_acons (le_var 2) le_anil)) (le_gname (i := 4) sc__law_bill.nd)
 (le_one (le_exp (le_mt PySem.F.plainAttrs_list PySem.F.slot_list_append PySem.F.type_list_append mt_append knd_lst sm_append (le_var 3) (le_acons (le_callX (ok__law_name T) (takes_of rfl rfl rfl rfl) (hr.mono (by decide)) (by rfl) (le_acons (le_var 0) (le_acons (le_var 3) le_anil)) (fun _ _ _ _ h => len_cons (fun _ _ _ _ h => len_cons (fun _ _ _ _ h => len_nil h) h) h)) le_anil)))))
 (le_seq (le_set (i := 5) sc__law_bill.nd (le_lst le_anil))
 (le_seq (le_for (passes_of rfl) rfl (le_rg1 (by rfl) (T.free_range) (le_acons (le_var 2) le_anil)) (le_gname (i := 4) sc__law_bill.nd)
 (le_seq (le_set (i := 6) sc__law_bill.nd (le_callX (ok__law_draw T) (takes_of rfl rfl rfl rfl) (hr.mono (by decide)) (by rfl) (le_acons (le_var 0) (le_acons (le_op op_addA sv_add (le_callB call_len sv_len (by rfl) (T.free_len) (by decide +kernel) (le_acons (le_var 5) le_anil)) le_int) le_anil)) (fun _ _ _ _ h => len_cons (fun _ _ _ _ h => len_cons (fun _ _ _ _ h => len_nil h) h) h)))
 (le_one (le_set (i := 5) sc__law_bill.nd (le_op op_addA sv_add (le_op op_addA sv_add (le_sl (le_var 5) le_onone (le_osome (le_var 6))) (le_lst (le_acons (le_var 4) le_anil))) (le_sl (le_var 5) (le_osome (le_var 6)) le_onone))))))
 (le_seq (le_set (i := 7) sc__law_bill.nd (le_new le_anil))
 (le_seq (le_for (passes_of rfl) rfl (le_rg1 (by rfl) (T.free_range) (le_acons (le_var 2) le_anil)) (le_gname (i := 4) sc__law_bill.nd)
 (le_seq (le_set (i := 8) sc__law_bill.nd (le_sl (le_var 5) le_onone (le_osome (le_mt PySem.F.plainAttrs_list PySem.F.slot_list_index PySem.F.type_list_index mt_index knd_lst sm_index (le_var 5) (le_acons (le_var 4) le_anil)))))
 (le_seq (le_set (i := 9) sc__law_bill.nd (le_new le_anil))
 (le_seq (le_for (passes_of rfl) rfl (le_rg1 (by rfl) (T.free_range) (le_acons (le_callX (ok__law_draw T) (takes_of rfl rfl rfl rfl) (hr.mono (by decide)) (by rfl) (le_acons (le_var 0) (le_acons le_int le_anil)) (fun _ _ _ _ h => len_cons (fun _ _ _ _ h => len_cons (fun _ _ _ _ h => len_nil h) h) h)) le_anil)) (le_gname (i := 10) sc__law_bill.nd)
 (le_one (le_if (le_tcmp op_gt sv_gt (le_callB call_len sv_len (by rfl) (T.free_len) (by decide +kernel) (le_acons (le_var 8) le_anil)) le_int (nomark _))
 (le_seq (le_set (i := 11) sc__law_bill.nd (le_op op_addA sv_add le_int (le_callX (ok__law_draw T) (takes_of rfl rfl rfl rfl) (hr.mono (by decide)) (by rfl) (le_acons (le_var 0) (le_acons le_int le_anil)) (fun _ _ _ _ h => len_cons (fun _ _ _ _ h => len_cons (fun _ _ _ _ h => len_nil h) h) h))))
 (le_seq (le_if (le_tcmp (op_eqA hr.units) sv_eq (le_callX (ok__law_draw T) (takes_of rfl rfl rfl rfl) (hr.mono (by decide)) (by rfl) (le_acons (le_var 0) (le_acons le_int le_anil)) (fun _ _ _ _ h => len_cons (fun _ _ _ _ h => len_cons (fun _ _ _ _ h => len_nil h) h) h)) le_int (nomark _))
 (le_one (le_set (i := 11) sc__law_bill.nd le_int))
 le_nil)
 (le_one (le_exp (le_mt PySem.F.plainAttrs_list PySem.F.slot_list_append PySem.F.type_list_append mt_append knd_lst sm_append (le_var 9) (le_acons (le_tup (le_acons (le_ix (ix_any (hu_of hr)) sv_ixA (le_var 8) (le_callX (ok__law_draw T) (takes_of rfl rfl rfl rfl) (hr.mono (by decide)) (by rfl) (le_acons (le_var 0) (le_acons (le_callB call_len sv_len (by rfl) (T.free_len) (by decide +kernel) (le_acons (le_var 8) le_anil)) le_anil)) (fun _ _ _ _ h => len_cons (fun _ _ _ _ h => len_cons (fun _ _ _ _ h => len_nil h) h) h)) (fun _ _ => rfl)) (le_acons (le_var 11) le_anil))) le_anil))))))
 le_nil)))
 (le_seq (le_set (i := 12) sc__law_bill.nd (le_ix (ix_any (hu_of hr)) sv_ixA (le_lst (le_acons (le_callX (ok__law_draw T) (takes_of rfl rfl rfl rfl) (hr.mono (by decide)) (by rfl) (le_acons (le_var 0) (le_acons le_int le_anil)) (fun _ _ _ _ h => len_cons (fun _ _ _ _ h => len_cons (fun _ _ _ _ h => len_nil h) h) h)) (le_acons (le_callX (ok__law_draw T) (takes_of rfl rfl rfl rfl) (hr.mono (by decide)) (by rfl) (le_acons (le_var 0) (le_acons le_int le_anil)) (fun _ _ _ _ h => len_cons (fun _ _ _ _ h => len_cons (fun _ _ _ _ h => len_nil h) h) h)) le_anil))) (le_op op_fdiv sv_fdiv (le_callX (ok__law_draw T) (takes_of rfl rfl rfl rfl) (hr.mono (by decide)) (by rfl) (le_acons (le_var 0) (le_acons le_int le_anil)) (fun _ _ _ _ h => len_cons (fun _ _ _ _ h => len_cons (fun _ _ _ _ h => len_nil h) h) h)) le_int) (fun _ _ => rfl)))
 (le_seq (le_set (i := 13) sc__law_bill.nd (le_ix (ix_any (hu_of hr)) sv_ixA (le_lst (le_acons (le_op op_addA sv_add le_int (le_callX (ok__law_draw T) (takes_of rfl rfl rfl rfl) (hr.mono (by decide)) (by rfl) (le_acons (le_var 0) (le_acons le_int le_anil)) (fun _ _ _ _ h => len_cons (fun _ _ _ _ h => len_cons (fun _ _ _ _ h => len_nil h) h) h))) (le_acons (le_op op_addA sv_add le_int (le_callX (ok__law_draw T) (takes_of rfl rfl rfl rfl) (hr.mono (by decide)) (by rfl) (le_acons (le_var 0) (le_acons le_int le_anil)) (fun _ _ _ _ h => len_cons (fun _ _ _ _ h => len_cons (fun _ _ _ _ h => len_nil h) h) h))) le_anil))) (le_op op_fdiv sv_fdiv (le_callX (ok__law_draw T) (takes_of rfl rfl rfl rfl) (hr.mono (by decide)) (by rfl) (le_acons (le_var 0) (le_acons le_int le_anil)) (fun _ _ _ _ h => len_cons (fun _ _ _ _ h => len_cons (fun _ _ _ _ h => len_nil h) h) h)) le_int) (fun _ _ => rfl)))
 (le_one (le_exp (le_mt PySem.F.plainAttrs_list PySem.F.slot_list_append PySem.F.type_list_append mt_append knd_lst sm_append (le_var 7) (le_acons (le_tup (le_acons (le_ix (ix_any (hu_of hr)) sv_ixA (le_var 3) (le_var 4) (fun _ _ => rfl)) (le_acons (le_callTy call_tuple_of sv_tuple (by rfl) (T.free_tuple) (by decide +kernel) (le_acons (le_var 9) le_anil)) (le_acons (le_var 12) (le_acons (le_var 13) (le_acons (le_op op_addA sv_add le_int (le_callX (ok__law_draw T) (takes_of rfl rfl rfl rfl) (hr.mono (by decide)) (by rfl) (le_acons (le_var 0) (le_acons (le_var 13) le_anil)) (fun _ _ _ _ h => len_cons (fun _ _ _ _ h => len_cons (fun _ _ _ _ h => len_nil h) h) h))) le_anil)))))) le_anil))))))))))
 (le_one (le_ret (le_callTy call_tuple_of sv_tuple (by rfl) (T.free_tuple) (by decide +kernel) (le_acons (le_var 7) le_anil)))))))))))
/-! _law_text -/
abbrev s__law_text : Stmt := top 41
theorem sc__law_text : FnScope ["bill", "text", "name", "parts", "lead", "lot", "good", "uses", "part"] ["bill"] (defScope s__law_text) := ⟨rfl, rfl, rfl, by decide +kernel, rfl, by decide +kernel, by decide +kernel⟩
noncomputable def S__law_text_1 : DS :=
 (sAsg 1 (eCst (.str (lit ""))))
noncomputable def S__law_text_3 : DS :=
 (sAsg 7 (eNew aNil))
noncomputable def S__law_text_5 : DS :=
 (sExp (eMt isLst mAppend (eVar 7) (aCons (eBin bAdd (eBin bIxA (eLst (aCons (eBin bAdd (eApp fStr (aCons (eBin bIxA (eVar 8) (eCst (.int 1))) aNil)) (eCst (.str (lit " ")))) (aCons (eCst (.str (lit ""))) aNil))) (eApp fInt (aCons (eBin (cEqB false) (eBin bIxA (eVar 8) (eCst (.int 1))) (eCst (.int 1))) aNil))) (eBin bIxA (eBin bIxA (eVar 0) (eBin bIxA (eVar 8) (eCst (.int 0)))) (eCst (.int 0)))) aNil)))
noncomputable def L__law_text_4 : DS :=
 S__law_text_5
noncomputable def S__law_text_4 : DS :=
 (sForA (gN 8) (eVar 3) L__law_text_4)
noncomputable def S__law_text_6 : DS :=
 (sAsg 1 (eBin bAdd (eBin bAdd (eBin bAdd (eBin bAdd (eBin bAdd (eBin bAdd (eBin bAdd (eBin bAdd (eBin bAdd (eBin bAdd (eVar 1) (eVar 2)) (eCst (.str (lit ": ")))) (eMt isStr mJoin (eCst (.str (lit ", "))) (aCons (eVar 7) aNil))) (eCst (.str (lit "; ")))) (eApp fStr (aCons (eVar 4) aNil))) (eCst (.str (lit " days; ")))) (eApp fStr (aCons (eVar 5) aNil))) (eCst (.str (lit " yields ")))) (eApp fStr (aCons (eVar 6) aNil))) (eCst (.str (lit "\n")))))
noncomputable def L__law_text_2 : DS :=
 (sSeq S__law_text_3
 (sSeq S__law_text_4
 S__law_text_6))
noncomputable def S__law_text_2 : DS :=
 (sForA (gT (gsCons (gN 2) (gsCons (gN 3) (gsCons (gN 4) (gsCons (gN 5) (gsCons (gN 6) gsNil)))))) (eVar 0) L__law_text_2)
noncomputable def S__law_text_7 : DS :=
 (sRet (eVar 1))
noncomputable def B__law_text : DS :=
 (sSeq S__law_text_1
 (sSeq S__law_text_2
 S__law_text_7))
noncomputable def F__law_text : DF := runF 9 B__law_text
theorem ok__law_text (T : Tx K mg) : FnX P w K mg base "_law_text" 1 ["bill"] F__law_text :=
  fnX T.def__law_text T.glo__law_text sc__law_text rfl (fun _ _ _ _ _ _ us hl => match us, hl with | [_], _ => rfl) fun f cdv A outer s H E hr =>
 (le_seq (le_set (i := 1) sc__law_text.nd le_lit)
 (le_seq (le_forA (passes_of rfl) rfl (le_var 0) (le_gtup rfl (le_gcons (le_gname (i := 2) sc__law_text.nd) (le_gcons (le_gname (i := 3) sc__law_text.nd) (le_gcons (le_gname (i := 4) sc__law_text.nd) (le_gcons (le_gname (i := 5) sc__law_text.nd) (le_gcons (le_gname (i := 6) sc__law_text.nd) le_gnil))))))
 (le_seq (le_set (i := 7) sc__law_text.nd (le_new le_anil))
 (le_seq (le_forA (passes_of rfl) rfl (le_var 3) (le_gname (i := 8) sc__law_text.nd)
 (le_one (le_exp (le_mt PySem.F.plainAttrs_list PySem.F.slot_list_append PySem.F.type_list_append mt_append knd_lst sm_append (le_var 7) (le_acons (le_op op_addA sv_add (le_ix (ix_any (hu_of hr)) sv_ixA (le_lst (le_acons (le_op op_addA sv_add (le_callTy call_str_int sv_str (by rfl) (T.free_str) (by decide +kernel) (le_acons (le_ix (ix_any (hu_of hr)) sv_ixA (le_var 8) le_int (fun _ _ => rfl)) le_anil)) le_lit) (le_acons le_lit le_anil))) (le_callTy call_intA sv_int (by rfl) (T.free_int) (by decide +kernel) (le_acons (le_cmp (op_eqA hr.units) sv_eq (le_ix (ix_any (hu_of hr)) sv_ixA (le_var 8) le_int (fun _ _ => rfl)) le_int (nomark _)) le_anil)) (fun _ _ => rfl)) (le_ix (ix_any (hu_of hr)) sv_ixA (le_ix (ix_any (hu_of hr)) sv_ixA (le_var 0) (le_ix (ix_any (hu_of hr)) sv_ixA (le_var 8) le_int (fun _ _ => rfl)) (fun _ _ => rfl)) le_int (fun _ _ => rfl))) le_anil)))))
 (le_one (le_set (i := 1) sc__law_text.nd (le_op op_addA sv_add (le_op op_addA sv_add (le_op op_addA sv_add (le_op op_addA sv_add (le_op op_addA sv_add (le_op op_addA sv_add (le_op op_addA sv_add (le_op op_addA sv_add (le_op op_addA sv_add (le_op op_addA sv_add (le_var 1) (le_var 2)) le_lit) (le_mt PySem.F.plainAttrs_str PySem.F.slot_str_join PySem.F.type_str_join mt_join knd_str sm_join le_lit (le_acons (le_var 7) le_anil))) le_lit) (le_callTy call_str_int sv_str (by rfl) (T.free_str) (by decide +kernel) (le_acons (le_var 4) le_anil))) le_lit) (le_callTy call_str_int sv_str (by rfl) (T.free_str) (by decide +kernel) (le_acons (le_var 5) le_anil))) le_lit) (le_callTy call_str_int sv_str (by rfl) (T.free_str) (by decide +kernel) (le_acons (le_var 6) le_anil))) le_lit))))))
 (le_one (le_ret (le_var 1)))))
/-! law -/
abbrev s_law : Stmt := top 42
theorem sc_law : FnScope ["script", "box", "bill", "text"] ["script"] (defScope s_law) := ⟨rfl, rfl, rfl, by decide +kernel, rfl, by decide +kernel, by decide +kernel⟩
noncomputable def S_law_1 : DS :=
 (sAsg 1 (eNew (aCons (eCall F__law_digits (aCons (eVar 0) (aCons (eCst (.int 0)) (aCons (eCst (.int 63)) aNil)))) (aCons (eCst (.int 0)) aNil))))
noncomputable def S_law_2 : DS :=
 (sAsg 2 (eCall F__law_bill (aCons (eVar 1) (aCons (eCst (.int 8)) aNil))))
noncomputable def S_law_3 : DS :=
 (sAsg 3 (eCall F_write_bill (aCons (eVar 2) aNil)))
noncomputable def S_law_4 : DS :=
 (sRet (eAnd (eCall (F__law_same 5) (aCons (eVar 3) (aCons (eCall F__law_text (aCons (eVar 2) aNil)) aNil))) (eAnd (eCall (F__law_same 5) (aCons (eCall F_read_bill (aCons (eVar 3) aNil)) (aCons (eVar 2) aNil))) (eCall (F__law_same 5) (aCons (eCall F_write_bill (aCons (eTup aNil) aNil)) (aCons (eCst (.str (lit ""))) aNil))))))
noncomputable def B_law : DS :=
 (sSeq S_law_1
 (sSeq S_law_2
 (sSeq S_law_3
 S_law_4)))
noncomputable def F_law : DF := runF 4 B_law
theorem ok_law (T : Tx K mg) : FnX P w K mg base "law" 10 ["script"] F_law :=
  fnX T.def_law T.glo_law sc_law rfl (fun _ _ _ _ _ _ us hl => match us, hl with | [_], _ => rfl) fun f cdv A outer s H E hr =>
 (le_seq (le_set (i := 1) sc_law.nd (le_new (le_acons (le_callX (ok__law_digits T) (takes_of rfl rfl rfl rfl) (hr.mono (by decide)) (by rfl) (le_acons (le_var 0) (le_acons le_int (le_acons le_int le_anil))) (fun _ _ _ _ h => len_cons (fun _ _ _ _ h => len_cons (fun _ _ _ _ h => len_cons (fun _ _ _ _ h => len_nil h) h) h) h)) (le_acons le_int le_anil))))
 (le_seq (le_set (i := 2) sc_law.nd (le_callX (ok__law_bill T) (takes_of rfl rfl rfl rfl) (hr.mono (by decide)) (by rfl) (le_acons (le_var 1) (le_acons le_int le_anil)) (fun _ _ _ _ h => len_cons (fun _ _ _ _ h => len_cons (fun _ _ _ _ h => len_nil h) h) h)))
 (le_seq (le_set (i := 3) sc_law.nd (le_callX (ok_write_bill T) (takes_of rfl rfl rfl rfl) (hr.mono (by decide)) (by rfl) (le_acons (le_var 2) le_anil) (fun _ _ _ _ h => len_cons (fun _ _ _ _ h => len_nil h) h)))
 (le_one (le_ret (le_andV (le_callX (ok__law_same T 5) (takes_of rfl rfl rfl rfl) (hr.mono (by decide)) (by rfl) (le_acons (le_var 3) (le_acons (le_callX (ok__law_text T) (takes_of rfl rfl rfl rfl) (hr.mono (by decide)) (by rfl) (le_acons (le_var 2) le_anil) (fun _ _ _ _ h => len_cons (fun _ _ _ _ h => len_nil h) h)) le_anil)) (fun _ _ _ _ h => len_cons (fun _ _ _ _ h => len_cons (fun _ _ _ _ h => len_nil h) h) h)) (le_andV (le_callX (ok__law_same T 5) (takes_of rfl rfl rfl rfl) (hr.mono (by decide)) (by rfl) (le_acons (le_callX (ok_read_bill T) (takes_of rfl rfl rfl rfl) (hr.mono (by decide)) (by rfl) (le_acons (le_var 3) le_anil) (fun _ _ _ _ h => len_cons (fun _ _ _ _ h => len_nil h) h)) (le_acons (le_var 2) le_anil)) (fun _ _ _ _ h => len_cons (fun _ _ _ _ h => len_cons (fun _ _ _ _ h => len_nil h) h) h)) (le_oneV (le_callX (ok__law_same T 5) (takes_of rfl rfl rfl rfl) (hr.mono (by decide)) (by rfl) (le_acons (le_callX (ok_write_bill T) (takes_of rfl rfl rfl rfl) (hr.mono (by decide)) (by rfl) (le_acons (le_tup le_anil) le_anil) (fun _ _ _ _ h => len_cons (fun _ _ _ _ h => len_nil h) h)) (le_acons le_lit le_anil)) (fun _ _ _ _ h => len_cons (fun _ _ _ _ h => len_cons (fun _ _ _ _ h => len_nil h) h) h))))))))))
end
-- LOOSE (["__name__", "LETTERS", "DIGITS", "SIGNS", "MOST_LETTERS", "MOST_DIGITS", "MOST_ITEMS", "MOST_PARTS", "MOST_QUANTITY", "MOST_LEAD", "MOST_LOT", "write_bill", "line_of", "part_text", "PlanError", "BillFault", "tokens", "string_at", "end_of_run", "kind_of", "is_number", "LineReader", "read_bill", "read_rows", "read_row", "read_parts", "read_part", "numbered_parts", "check_loops", "parts_within", "_law_cell", "_law_digits", "_law_draw", "_law_same", "_law_run", "_law_name", "_law_bill", "_law_text"] : List Str)

local macro_rules
  | `(tactic| simp only [ZWP, $ls,*] $[$loc]?) => `(tactic| simp only [$ls,*, wE_srtS, wS_match, wS_mnil, wE_notA, wE_newT, wE_key, keyR_2, wE_getT2, wS_setT, setT_R, setTR_dct, bIxK_R, ixTR_dct, bIxK_int, bxA_key, wE_lr2, wE_aStar, seqW_some, wE_zp, zipR_tup, Bool.true_eq_false, Int.natCast_inj, wE_ok, wE_exc, wE_bad, wE_if, wE_ite, if_F, wE_bind, wS_nil, wS_seq, wS_asg, wS_exp, wS_ret, wS_retN, wS_brk, wS_cont, wS_if, wS_aug, wS_asgG, asgW_some, wS_setI, wS_setIA, wS_fldD, wS_raise, wS_par, wS_parR, wS_for, wS_forA, forA_lst, forA_tup, forA_str, getW_some, wE_var, wE_cst, wE_bin, wE_un, wE_andV, wE_orV, wE_notV, wE_ifx, wE_call, wE_app, wE_appK, wE_tup, wE_lst, wE_new, wE_newD, wE_mt, wE_rem, wE_get2, wE_sl, wE_oNone, intW_int, wE_oSome, wE_aNil, wE_aCons, blW_bl, wE_chain, wE_dT, wE_dTA, wE_truth, wE_dAnd, wE_dOr, wE_dNot, wE_dYes, wE_rg1, wE_rg2, wE_iSA, seqA_lst, seqA_tup, wE_en, enumR_lst, wE_enA, enumA_lst, enumA_tup, wE_rvD, revD_tup, revD_lst, wE_dcN, wE_lr1, gN, gT, gsCons, gsNil, CG.d, setsD, wipeD, isLst, isStr, seqOf, lstOf, setIA_R, setR_lst, setR_dic, setL_nat, setK_int, wS_iff, bxA_lst, bxA_tup, bxA_str, bIxA_dic, bIxA_refR, ixR_lst, ixR_dic, ixL_nat, ixL_lit, ixL_0, ixL_1, ixO_some, bAdd, bSub, bNeg, bIadd, bSl_str, bSl_tup, bSl_lst, cLt, cLe, cGt, cGe, cIsN, fLen_lst, fLen_tup, fLen_scr, fLen_str, fLen_ref, lenR_lst, fMax, fMin, fAbs, fInt, fStr, fTuple, fList, fAny, fAll, lstBls, fSum, lstInts, mAppend, truthA, truV, cEq_int, cEq_str, cEq_bl, Option.bind_some, intsD_ints, blsD_bls, atI_0, atI_1, atI_lit, atI_natC, ixN_0, ixN_1, ixN_nat, List.map_cons, List.map_nil, List.length_cons, List.length_nil, List.length_map, List.cons_append, List.nil_append, List.replicate, List.getElem?_cons_zero, List.getElem?_cons_succ, List.set_cons_zero, List.set_cons_succ, List.length_set, Option.isSome_some, Nat.sub_self, Nat.reduceAdd, Nat.reduceSub, Nat.reduceLT, if_true, if_false, ite_true, ite_false, reduceIte, Bool.false_eq_true, decide_eq_true_eq, Bool.not_true, Bool.not_false, Nat.zero_add, true_and, and_true, false_and, and_false, and_self, Bool.xor_false, Bool.false_xor, Bool.true_xor, Bool.xor_true, get_app, get_app0, set_app, set_app0, List.append_assoc, List.length_append, le_0, le_1, le_2, le_3, le_4, le_5, le_6, le_7, le_8, Bool.not_eq_true', decide_eq_false_iff_not, fin_same] $[$loc]?)
  | `(tactic| simp only [ZWP] $[$loc]?) => `(tactic| simp only [wE_srtS, wS_match, wS_mnil, wE_notA, wE_newT, wE_key, keyR_2, wE_getT2, wS_setT, setT_R, setTR_dct, bIxK_R, ixTR_dct, bIxK_int, bxA_key, wE_lr2, wE_aStar, seqW_some, wE_zp, zipR_tup, Bool.true_eq_false, Int.natCast_inj, wE_ok, wE_exc, wE_bad, wE_if, wE_ite, if_F, wE_bind, wS_nil, wS_seq, wS_asg, wS_exp, wS_ret, wS_retN, wS_brk, wS_cont, wS_if, wS_aug, wS_asgG, asgW_some, wS_setI, wS_setIA, wS_fldD, wS_raise, wS_par, wS_parR, wS_for, wS_forA, forA_lst, forA_tup, forA_str, getW_some, wE_var, wE_cst, wE_bin, wE_un, wE_andV, wE_orV, wE_notV, wE_ifx, wE_call, wE_app, wE_appK, wE_tup, wE_lst, wE_new, wE_newD, wE_mt, wE_rem, wE_get2, wE_sl, wE_oNone, intW_int, wE_oSome, wE_aNil, wE_aCons, blW_bl, wE_chain, wE_dT, wE_dTA, wE_truth, wE_dAnd, wE_dOr, wE_dNot, wE_dYes, wE_rg1, wE_rg2, wE_iSA, seqA_lst, seqA_tup, wE_en, enumR_lst, wE_enA, enumA_lst, enumA_tup, wE_rvD, revD_tup, revD_lst, wE_dcN, wE_lr1, gN, gT, gsCons, gsNil, CG.d, setsD, wipeD, isLst, isStr, seqOf, lstOf, setIA_R, setR_lst, setR_dic, setL_nat, setK_int, wS_iff, bxA_lst, bxA_tup, bxA_str, bIxA_dic, bIxA_refR, ixR_lst, ixR_dic, ixL_nat, ixL_lit, ixL_0, ixL_1, ixO_some, bAdd, bSub, bNeg, bIadd, bSl_str, bSl_tup, bSl_lst, cLt, cLe, cGt, cGe, cIsN, fLen_lst, fLen_tup, fLen_scr, fLen_str, fLen_ref, lenR_lst, fMax, fMin, fAbs, fInt, fStr, fTuple, fList, fAny, fAll, lstBls, fSum, lstInts, mAppend, truthA, truV, cEq_int, cEq_str, cEq_bl, Option.bind_some, intsD_ints, blsD_bls, atI_0, atI_1, atI_lit, atI_natC, ixN_0, ixN_1, ixN_nat, List.map_cons, List.map_nil, List.length_cons, List.length_nil, List.length_map, List.cons_append, List.nil_append, List.replicate, List.getElem?_cons_zero, List.getElem?_cons_succ, List.set_cons_zero, List.set_cons_succ, List.length_set, Option.isSome_some, Nat.sub_self, Nat.reduceAdd, Nat.reduceSub, Nat.reduceLT, if_true, if_false, ite_true, ite_false, reduceIte, Bool.false_eq_true, decide_eq_true_eq, Bool.not_true, Bool.not_false, Nat.zero_add, true_and, and_true, false_and, and_false, and_self, Bool.xor_false, Bool.false_xor, Bool.true_xor, Bool.xor_true, get_app, get_app0, set_app, set_app0, List.append_assoc, List.length_append, le_0, le_1, le_2, le_3, le_4, le_5, le_6, le_7, le_8, Bool.not_eq_true', decide_eq_false_iff_not, fin_same] $[$loc]?)
/-! ## the law's draws -/
def box (ds : List Int) (at_ : Nat) : Ob := .lst [.lst (ds.map D.int), .int at_]
def drawV (ds : List Int) (at_ : Nat) (m : Int) : Int := match ds[at_]? with | some d => d % m | none => 0
theorem draw_range (ds : List Int) (at_ : Nat) {m : Int} (h : 0 < m) : 0 ≤ drawV ds at_ m ∧ drawV ds at_ m < m := by
  unfold drawV
  split
  · exact ⟨Int.emod_nonneg _ (by omega), Int.emod_lt_of_pos _ h⟩
  · exact ⟨Int.le_refl _, h⟩
theorem draw_eq {ds : List Int} {at_ : Nat} {m : Int} {G : GS} (hm : 0 < m) :
    F__law_draw [.ref 0, .int m] (box ds at_ :: G) = .ok (.int (drawV ds at_ m)) (box ds (at_ + 1) :: G) := by
  unfold box
  simp only [S__law_draw_1, S__law_draw_2, C__law_draw_3, S__law_draw_4, S__law_draw_3, S__law_draw_5, B__law_draw, F__law_draw, bIxA, sSetIA, setIA, keyD, cInA, runF, sSeq, sAsg, sSetI, sIf, sRet, sRetN, sExp, sBrk, sCont, sNil, sFor, sAug, sAsgG, asgR, gN, gT, gsCons, gsNil, iSeqL, iSeqT, iRg1, iRg2, eBin, eUn, eVar, eCst, eApp, eCall, eTup, eLst, eNew, eSl, oSome, oNone, aCons, aNil, dT, dAnd, dOr, dNot, eAnd, eOr, eNot, eIf, truth, eMt, isLst, isStr, seqOf, lstOf, setI, bIx, bAdd, bSub, bNeg, bIadd, cLt, cLe, cGt, cGe, cIsN, fLen, fMax, fMin, fAbs, fInt, fStr, fTuple, fList, mAppend, bSl, bindE_ok, bindE_exc, bindE_bad, bindS_ok, bindS_exc, bindS_bad, seqR_nx, seqR_ret, seqR_brk, seqR_cont, seqR_exc, seqR_bad, turnR_nx, turnR_ret, turnR_brk, turnR_cont, turnR_exc, turnR_bad, atI_0, atI_1, atI_lit, atI_natC, ixN_0, ixN_1, ixN_nat, List.map_cons, List.map_nil, List.length_cons, List.length_nil, List.length_map, List.cons_append, List.nil_append, List.replicate, List.getElem?_cons_zero, List.getElem?_cons_succ, List.set_cons_zero, List.set_cons_succ, List.length_set, Option.isSome_some, Nat.sub_self, Nat.reduceAdd, Nat.reduceSub, Nat.reduceLT, if_true, if_false, ite_true, ite_false, reduceIte, Bool.false_eq_true, Bool.true_eq_false, decide_eq_true_eq, Bool.not_true, Bool.not_false, Nat.zero_add, true_and, and_true, false_and, and_false, and_self, Bool.xor_false, Bool.false_xor, Bool.true_xor, Bool.xor_true, get_new, set_new, get_new1, set_new1, le_0, le_1, le_2, le_3, le_4, le_5, le_6, le_7, le_8, cIn_one, cEq_int, cEq_str, cEq_bl]
  by_cases h : at_ < ds.length
  · have e : (ds.map D.int)[at_]? = some (.int ds[at_]) := by simp [h]
    have e2 : drawV ds at_ m = ds[at_] % m := by unfold drawV; rw [List.getElem?_eq_getElem h]
    simp only [Int.ofNat_lt, h, e, e2, modL _ _ hm, bIxA, sSetIA, setIA, keyD, cInA, runF, sSeq, sAsg, sSetI, sIf, sRet, sRetN, sExp, sBrk, sCont, sNil, sFor, sAug, sAsgG, asgR, gN, gT, gsCons, gsNil, iSeqL, iSeqT, iRg1, iRg2, eBin, eUn, eVar, eCst, eApp, eCall, eTup, eLst, eNew, eSl, oSome, oNone, aCons, aNil, dT, dAnd, dOr, dNot, eAnd, eOr, eNot, eIf, truth, eMt, isLst, isStr, seqOf, lstOf, setI, bIx, bAdd, bSub, bNeg, bIadd, cLt, cLe, cGt, cGe, cIsN, fLen, fMax, fMin, fAbs, fInt, fStr, fTuple, fList, mAppend, bSl, bindE_ok, bindE_exc, bindE_bad, bindS_ok, bindS_exc, bindS_bad, seqR_nx, seqR_ret, seqR_brk, seqR_cont, seqR_exc, seqR_bad, turnR_nx, turnR_ret, turnR_brk, turnR_cont, turnR_exc, turnR_bad, atI_0, atI_1, atI_lit, atI_natC, ixN_0, ixN_1, ixN_nat, List.map_cons, List.map_nil, List.length_cons, List.length_nil, List.length_map, List.cons_append, List.nil_append, List.replicate, List.getElem?_cons_zero, List.getElem?_cons_succ, List.set_cons_zero, List.set_cons_succ, List.length_set, Option.isSome_some, Nat.sub_self, Nat.reduceAdd, Nat.reduceSub, Nat.reduceLT, if_true, if_false, ite_true, ite_false, reduceIte, Bool.false_eq_true, Bool.true_eq_false, decide_eq_true_eq, Bool.not_true, Bool.not_false, Nat.zero_add, true_and, and_true, false_and, and_false, and_self, Bool.xor_false, Bool.false_xor, Bool.true_xor, Bool.xor_true, get_new, set_new, get_new1, set_new1, le_0, le_1, le_2, le_3, le_4, le_5, le_6, le_7, le_8, cIn_one, cEq_int, cEq_str, cEq_bl]
    rw [finish_same (by simp)]
    rfl
  · have e2 : drawV ds at_ m = 0 := by unfold drawV; rw [List.getElem?_eq_none (by omega)]
    simp only [Int.ofNat_lt, h, e2, bIxA, sSetIA, setIA, keyD, cInA, runF, sSeq, sAsg, sSetI, sIf, sRet, sRetN, sExp, sBrk, sCont, sNil, sFor, sAug, sAsgG, asgR, gN, gT, gsCons, gsNil, iSeqL, iSeqT, iRg1, iRg2, eBin, eUn, eVar, eCst, eApp, eCall, eTup, eLst, eNew, eSl, oSome, oNone, aCons, aNil, dT, dAnd, dOr, dNot, eAnd, eOr, eNot, eIf, truth, eMt, isLst, isStr, seqOf, lstOf, setI, bIx, bAdd, bSub, bNeg, bIadd, cLt, cLe, cGt, cGe, cIsN, fLen, fMax, fMin, fAbs, fInt, fStr, fTuple, fList, mAppend, bSl, bindE_ok, bindE_exc, bindE_bad, bindS_ok, bindS_exc, bindS_bad, seqR_nx, seqR_ret, seqR_brk, seqR_cont, seqR_exc, seqR_bad, turnR_nx, turnR_ret, turnR_brk, turnR_cont, turnR_exc, turnR_bad, atI_0, atI_1, atI_lit, atI_natC, ixN_0, ixN_1, ixN_nat, List.map_cons, List.map_nil, List.length_cons, List.length_nil, List.length_map, List.cons_append, List.nil_append, List.replicate, List.getElem?_cons_zero, List.getElem?_cons_succ, List.set_cons_zero, List.set_cons_succ, List.length_set, Option.isSome_some, Nat.sub_self, Nat.reduceAdd, Nat.reduceSub, Nat.reduceLT, if_true, if_false, ite_true, ite_false, reduceIte, Bool.false_eq_true, Bool.true_eq_false, decide_eq_true_eq, Bool.not_true, Bool.not_false, Nat.zero_add, true_and, and_true, false_and, and_false, and_self, Bool.xor_false, Bool.false_xor, Bool.true_xor, Bool.xor_true, get_new, set_new, get_new1, set_new1, le_0, le_1, le_2, le_3, le_4, le_5, le_6, le_7, le_8, cIn_one, cEq_int, cEq_str, cEq_bl]
    rw [finish_same (by simp)]
    rfl
theorem cell_eq {ns : List Int} {k : Nat} {G : GS} : ∃ c, F__law_cell [.scr ns, .int k] G = .ok (.int c) G := by
  simp only [C__law_cell_1, S__law_cell_2, S__law_cell_1, S__law_cell_3, B__law_cell, F__law_cell, bIxA, sSetIA, setIA, keyD, cInA, runF, sSeq, sAsg, sSetI, sIf, sRet, sRetN, sExp, sBrk, sCont, sNil, sFor, sAug, sAsgG, asgR, gN, gT, gsCons, gsNil, iSeqL, iSeqT, iRg1, iRg2, eBin, eUn, eVar, eCst, eApp, eCall, eTup, eLst, eNew, eSl, oSome, oNone, aCons, aNil, dT, dAnd, dOr, dNot, eAnd, eOr, eNot, eIf, truth, eMt, isLst, isStr, seqOf, lstOf, setI, bIx, bAdd, bSub, bNeg, bIadd, cLt, cLe, cGt, cGe, cIsN, fLen, fMax, fMin, fAbs, fInt, fStr, fTuple, fList, mAppend, bSl, bindE_ok, bindE_exc, bindE_bad, bindS_ok, bindS_exc, bindS_bad, seqR_nx, seqR_ret, seqR_brk, seqR_cont, seqR_exc, seqR_bad, turnR_nx, turnR_ret, turnR_brk, turnR_cont, turnR_exc, turnR_bad, atI_0, atI_1, atI_lit, atI_natC, ixN_0, ixN_1, ixN_nat, List.map_cons, List.map_nil, List.length_cons, List.length_nil, List.length_map, List.cons_append, List.nil_append, List.replicate, List.getElem?_cons_zero, List.getElem?_cons_succ, List.set_cons_zero, List.set_cons_succ, List.length_set, Option.isSome_some, Nat.sub_self, Nat.reduceAdd, Nat.reduceSub, Nat.reduceLT, if_true, if_false, ite_true, ite_false, reduceIte, Bool.false_eq_true, Bool.true_eq_false, decide_eq_true_eq, Bool.not_true, Bool.not_false, Nat.zero_add, true_and, and_true, false_and, and_false, and_self, Bool.xor_false, Bool.false_xor, Bool.true_xor, Bool.xor_true, get_new, set_new, get_new1, set_new1, le_0, le_1, le_2, le_3, le_4, le_5, le_6, le_7, le_8, cIn_one, cEq_int, cEq_str, cEq_bl]
  by_cases h : k < ns.length
  · refine ⟨ns[k], ?_⟩
    have e : ns[k]? = some ns[k] := List.getElem?_eq_getElem h
    simp only [Int.ofNat_lt, h, e, bIxA, sSetIA, setIA, keyD, cInA, runF, sSeq, sAsg, sSetI, sIf, sRet, sRetN, sExp, sBrk, sCont, sNil, sFor, sAug, sAsgG, asgR, gN, gT, gsCons, gsNil, iSeqL, iSeqT, iRg1, iRg2, eBin, eUn, eVar, eCst, eApp, eCall, eTup, eLst, eNew, eSl, oSome, oNone, aCons, aNil, dT, dAnd, dOr, dNot, eAnd, eOr, eNot, eIf, truth, eMt, isLst, isStr, seqOf, lstOf, setI, bIx, bAdd, bSub, bNeg, bIadd, cLt, cLe, cGt, cGe, cIsN, fLen, fMax, fMin, fAbs, fInt, fStr, fTuple, fList, mAppend, bSl, bindE_ok, bindE_exc, bindE_bad, bindS_ok, bindS_exc, bindS_bad, seqR_nx, seqR_ret, seqR_brk, seqR_cont, seqR_exc, seqR_bad, turnR_nx, turnR_ret, turnR_brk, turnR_cont, turnR_exc, turnR_bad, atI_0, atI_1, atI_lit, atI_natC, ixN_0, ixN_1, ixN_nat, List.map_cons, List.map_nil, List.length_cons, List.length_nil, List.length_map, List.cons_append, List.nil_append, List.replicate, List.getElem?_cons_zero, List.getElem?_cons_succ, List.set_cons_zero, List.set_cons_succ, List.length_set, Option.isSome_some, Nat.sub_self, Nat.reduceAdd, Nat.reduceSub, Nat.reduceLT, if_true, if_false, ite_true, ite_false, reduceIte, Bool.false_eq_true, Bool.true_eq_false, decide_eq_true_eq, Bool.not_true, Bool.not_false, Nat.zero_add, true_and, and_true, false_and, and_false, and_self, Bool.xor_false, Bool.false_xor, Bool.true_xor, Bool.xor_true, get_new, set_new, get_new1, set_new1, le_0, le_1, le_2, le_3, le_4, le_5, le_6, le_7, le_8, cIn_one, cEq_int, cEq_str, cEq_bl]
    exact finish_same rfl
  · refine ⟨0, ?_⟩
    simp only [Int.ofNat_lt, h, bIxA, sSetIA, setIA, keyD, cInA, runF, sSeq, sAsg, sSetI, sIf, sRet, sRetN, sExp, sBrk, sCont, sNil, sFor, sAug, sAsgG, asgR, gN, gT, gsCons, gsNil, iSeqL, iSeqT, iRg1, iRg2, eBin, eUn, eVar, eCst, eApp, eCall, eTup, eLst, eNew, eSl, oSome, oNone, aCons, aNil, dT, dAnd, dOr, dNot, eAnd, eOr, eNot, eIf, truth, eMt, isLst, isStr, seqOf, lstOf, setI, bIx, bAdd, bSub, bNeg, bIadd, cLt, cLe, cGt, cGe, cIsN, fLen, fMax, fMin, fAbs, fInt, fStr, fTuple, fList, mAppend, bSl, bindE_ok, bindE_exc, bindE_bad, bindS_ok, bindS_exc, bindS_bad, seqR_nx, seqR_ret, seqR_brk, seqR_cont, seqR_exc, seqR_bad, turnR_nx, turnR_ret, turnR_brk, turnR_cont, turnR_exc, turnR_bad, atI_0, atI_1, atI_lit, atI_natC, ixN_0, ixN_1, ixN_nat, List.map_cons, List.map_nil, List.length_cons, List.length_nil, List.length_map, List.cons_append, List.nil_append, List.replicate, List.getElem?_cons_zero, List.getElem?_cons_succ, List.set_cons_zero, List.set_cons_succ, List.length_set, Option.isSome_some, Nat.sub_self, Nat.reduceAdd, Nat.reduceSub, Nat.reduceLT, if_true, if_false, ite_true, ite_false, reduceIte, Bool.false_eq_true, Bool.true_eq_false, decide_eq_true_eq, Bool.not_true, Bool.not_false, Nat.zero_add, true_and, and_true, false_and, and_false, and_self, Bool.xor_false, Bool.false_xor, Bool.true_xor, Bool.xor_true, get_new, set_new, get_new1, set_new1, le_0, le_1, le_2, le_3, le_4, le_5, le_6, le_7, le_8, cIn_one, cEq_int, cEq_str, cEq_bl]
    exact finish_same rfl
theorem pow18 (G : GS) : bPow (.int 10) (.int 18) G = .ok (.int 1000000000000000000) G := by
  simp only [bPow]
  rw [if_pos (by decide)]
  rfl
/-- the frame of _law_digits -/
def dgF (ns : List Int) (G : GS) (a b c d : Option D) : PEnv := [some (.scr ns), some (.int 0), some (.int 63), some (.ref G.length), a, b, c, d]
theorem dg_turn1 {ns : List Int} {G : GS} {ds : List Int} {k cell : Int} {t s : Option D} (h : ds.length < 100000) :
    ∃ (ds' : List Int) (c' : Int), L__law_digits_7 (dgF ns G (some (.int k)) (some (.int cell)) t s) (G ++ [.lst (ds.map D.int)]) = .nx (dgF ns G (some (.int k)) (some (.int c')) t s) (G ++ [.lst (ds'.map D.int)]) ∧ ds'.length ≤ ds.length + 1 := by
  have hm : ds.length < maxLine := by unfold maxLine; omega
  unfold dgF
  by_cases hc : 0 < cell
  · refine ⟨ds ++ [cell % 1000], cell / 1000, ?_, by simp⟩
    simp only [S__law_digits_1, S__law_digits_3, C__law_digits_4, S__law_digits_5, S__law_digits_4, C__law_digits_6, C__law_digits_8, S__law_digits_9, S__law_digits_10, S__law_digits_8, L__law_digits_7, S__law_digits_7, S__law_digits_12, S__law_digits_14, S__law_digits_15, L__law_digits_13, S__law_digits_13, S__law_digits_6, L__law_digits_2, S__law_digits_2, S__law_digits_16, hc, hm, modL _ 1000 (by omega), fdivL _ 1000 (by omega), List.map_append, bIxA, sSetIA, setIA, keyD, cInA, runF, sSeq, sAsg, sSetI, sIf, sRet, sRetN, sExp, sBrk, sCont, sNil, sFor, sAug, sAsgG, asgR, gN, gT, gsCons, gsNil, iSeqL, iSeqT, iRg1, iRg2, eBin, eUn, eVar, eCst, eApp, eCall, eTup, eLst, eNew, eSl, oSome, oNone, aCons, aNil, dT, dAnd, dOr, dNot, eAnd, eOr, eNot, eIf, truth, eMt, isLst, isStr, seqOf, lstOf, setI, bIx, bAdd, bSub, bNeg, bIadd, cLt, cLe, cGt, cGe, cIsN, fLen, fMax, fMin, fAbs, fInt, fStr, fTuple, fList, mAppend, bSl, bindE_ok, bindE_exc, bindE_bad, bindS_ok, bindS_exc, bindS_bad, seqR_nx, seqR_ret, seqR_brk, seqR_cont, seqR_exc, seqR_bad, turnR_nx, turnR_ret, turnR_brk, turnR_cont, turnR_exc, turnR_bad, atI_0, atI_1, atI_lit, atI_natC, ixN_0, ixN_1, ixN_nat, List.map_cons, List.map_nil, List.length_cons, List.length_nil, List.length_map, List.cons_append, List.nil_append, List.replicate, List.getElem?_cons_zero, List.getElem?_cons_succ, List.set_cons_zero, List.set_cons_succ, List.length_set, Option.isSome_some, Nat.sub_self, Nat.reduceAdd, Nat.reduceSub, Nat.reduceLT, if_true, if_false, ite_true, ite_false, reduceIte, Bool.false_eq_true, Bool.true_eq_false, decide_eq_true_eq, Bool.not_true, Bool.not_false, Nat.zero_add, true_and, and_true, false_and, and_false, and_self, Bool.xor_false, Bool.false_xor, Bool.true_xor, Bool.xor_true, get_new, set_new, get_new1, set_new1, le_0, le_1, le_2, le_3, le_4, le_5, le_6, le_7, le_8, cIn_one, cEq_int, cEq_str, cEq_bl]
  · refine ⟨ds, cell, ?_, by simp⟩
    simp only [S__law_digits_1, S__law_digits_3, C__law_digits_4, S__law_digits_5, S__law_digits_4, C__law_digits_6, C__law_digits_8, S__law_digits_9, S__law_digits_10, S__law_digits_8, L__law_digits_7, S__law_digits_7, S__law_digits_12, S__law_digits_14, S__law_digits_15, L__law_digits_13, S__law_digits_13, S__law_digits_6, L__law_digits_2, S__law_digits_2, S__law_digits_16, hc, decide_false, bIxA, sSetIA, setIA, keyD, cInA, runF, sSeq, sAsg, sSetI, sIf, sRet, sRetN, sExp, sBrk, sCont, sNil, sFor, sAug, sAsgG, asgR, gN, gT, gsCons, gsNil, iSeqL, iSeqT, iRg1, iRg2, eBin, eUn, eVar, eCst, eApp, eCall, eTup, eLst, eNew, eSl, oSome, oNone, aCons, aNil, dT, dAnd, dOr, dNot, eAnd, eOr, eNot, eIf, truth, eMt, isLst, isStr, seqOf, lstOf, setI, bIx, bAdd, bSub, bNeg, bIadd, cLt, cLe, cGt, cGe, cIsN, fLen, fMax, fMin, fAbs, fInt, fStr, fTuple, fList, mAppend, bSl, bindE_ok, bindE_exc, bindE_bad, bindS_ok, bindS_exc, bindS_bad, seqR_nx, seqR_ret, seqR_brk, seqR_cont, seqR_exc, seqR_bad, turnR_nx, turnR_ret, turnR_brk, turnR_cont, turnR_exc, turnR_bad, atI_0, atI_1, atI_lit, atI_natC, ixN_0, ixN_1, ixN_nat, List.map_cons, List.map_nil, List.length_cons, List.length_nil, List.length_map, List.cons_append, List.nil_append, List.replicate, List.getElem?_cons_zero, List.getElem?_cons_succ, List.set_cons_zero, List.set_cons_succ, List.length_set, Option.isSome_some, Nat.sub_self, Nat.reduceAdd, Nat.reduceSub, Nat.reduceLT, if_true, if_false, ite_true, ite_false, reduceIte, Bool.false_eq_true, Bool.true_eq_false, decide_eq_true_eq, Bool.not_true, Bool.not_false, Nat.zero_add, true_and, and_true, false_and, and_false, and_self, Bool.xor_false, Bool.false_xor, Bool.true_xor, Bool.xor_true, get_new, set_new, get_new1, set_new1, le_0, le_1, le_2, le_3, le_4, le_5, le_6, le_7, le_8, cIn_one, cEq_int, cEq_str, cEq_bl]
theorem dg_seed {ns : List Int} {G G' : GS} {k cell seed t : Int} :
    S__law_digits_14 (dgF ns G (some (.int k)) (some (.int cell)) (some (.int t)) (some (.int seed))) G' =
      .nx (dgF ns G (some (.int k)) (some (.int cell)) (some (.int t)) (some (.int ((seed * 16807 + 7 * t + 1) % 2147483647)))) G' := by
  unfold dgF S__law_digits_14
  simp only [modL _ 2147483647 (by omega), mulR _ 16807 (by omega), mulL 7 _ (by omega), bIxA, sSetIA, setIA, keyD, cInA, runF, sSeq, sAsg, sSetI, sIf, sRet, sRetN, sExp, sBrk, sCont, sNil, sFor, sAug, sAsgG, asgR, gN, gT, gsCons, gsNil, iSeqL, iSeqT, iRg1, iRg2, eBin, eUn, eVar, eCst, eApp, eCall, eTup, eLst, eNew, eSl, oSome, oNone, aCons, aNil, dT, dAnd, dOr, dNot, eAnd, eOr, eNot, eIf, truth, eMt, isLst, isStr, seqOf, lstOf, setI, bIx, bAdd, bSub, bNeg, bIadd, cLt, cLe, cGt, cGe, cIsN, fLen, fMax, fMin, fAbs, fInt, fStr, fTuple, fList, mAppend, bSl, bindE_ok, bindE_exc, bindE_bad, bindS_ok, bindS_exc, bindS_bad, seqR_nx, seqR_ret, seqR_brk, seqR_cont, seqR_exc, seqR_bad, turnR_nx, turnR_ret, turnR_brk, turnR_cont, turnR_exc, turnR_bad, atI_0, atI_1, atI_lit, atI_natC, ixN_0, ixN_1, ixN_nat, List.map_cons, List.map_nil, List.length_cons, List.length_nil, List.length_map, List.cons_append, List.nil_append, List.replicate, List.getElem?_cons_zero, List.getElem?_cons_succ, List.set_cons_zero, List.set_cons_succ, List.length_set, Option.isSome_some, Nat.sub_self, Nat.reduceAdd, Nat.reduceSub, Nat.reduceLT, if_true, if_false, ite_true, ite_false, reduceIte, Bool.false_eq_true, Bool.true_eq_false, decide_eq_true_eq, Bool.not_true, Bool.not_false, Nat.zero_add, true_and, and_true, false_and, and_false, and_self, Bool.xor_false, Bool.false_xor, Bool.true_xor, Bool.xor_true, get_new, set_new, get_new1, set_new1, le_0, le_1, le_2, le_3, le_4, le_5, le_6, le_7, le_8, cIn_one, cEq_int, cEq_str, cEq_bl]
theorem dg_app {ns : List Int} {G : GS} {k cell seed t : Int} {ds : List Int} (hm : ds.length < maxLine) :
    S__law_digits_15 (dgF ns G (some (.int k)) (some (.int cell)) (some (.int t)) (some (.int seed))) (G ++ [.lst (ds.map D.int)]) =
      .nx (dgF ns G (some (.int k)) (some (.int cell)) (some (.int t)) (some (.int seed))) (G ++ [.lst ((ds ++ [seed / 997 % 1000]).map D.int)]) := by
  unfold dgF S__law_digits_15
  simp only [hm, modL _ 1000 (by omega), fdivL _ 997 (by omega), List.map_append, bIxA, sSetIA, setIA, keyD, cInA, runF, sSeq, sAsg, sSetI, sIf, sRet, sRetN, sExp, sBrk, sCont, sNil, sFor, sAug, sAsgG, asgR, gN, gT, gsCons, gsNil, iSeqL, iSeqT, iRg1, iRg2, eBin, eUn, eVar, eCst, eApp, eCall, eTup, eLst, eNew, eSl, oSome, oNone, aCons, aNil, dT, dAnd, dOr, dNot, eAnd, eOr, eNot, eIf, truth, eMt, isLst, isStr, seqOf, lstOf, setI, bIx, bAdd, bSub, bNeg, bIadd, cLt, cLe, cGt, cGe, cIsN, fLen, fMax, fMin, fAbs, fInt, fStr, fTuple, fList, mAppend, bSl, bindE_ok, bindE_exc, bindE_bad, bindS_ok, bindS_exc, bindS_bad, seqR_nx, seqR_ret, seqR_brk, seqR_cont, seqR_exc, seqR_bad, turnR_nx, turnR_ret, turnR_brk, turnR_cont, turnR_exc, turnR_bad, atI_0, atI_1, atI_lit, atI_natC, ixN_0, ixN_1, ixN_nat, List.map_cons, List.map_nil, List.length_cons, List.length_nil, List.length_map, List.cons_append, List.nil_append, List.replicate, List.getElem?_cons_zero, List.getElem?_cons_succ, List.set_cons_zero, List.set_cons_succ, List.length_set, Option.isSome_some, Nat.sub_self, Nat.reduceAdd, Nat.reduceSub, Nat.reduceLT, if_true, if_false, ite_true, ite_false, reduceIte, Bool.false_eq_true, Bool.true_eq_false, decide_eq_true_eq, Bool.not_true, Bool.not_false, Nat.zero_add, true_and, and_true, false_and, and_false, and_self, Bool.xor_false, Bool.false_xor, Bool.true_xor, Bool.xor_true, get_new, set_new, get_new1, set_new1, le_0, le_1, le_2, le_3, le_4, le_5, le_6, le_7, le_8, cIn_one, cEq_int, cEq_str, cEq_bl]
theorem dg_turn2 {ns : List Int} {G : GS} {ds : List Int} {k cell seed t : Int} (h : ds.length < 100000) :
    ∃ (ds' : List Int) (s' : Int), L__law_digits_13 (dgF ns G (some (.int k)) (some (.int cell)) (some (.int t)) (some (.int seed))) (G ++ [.lst (ds.map D.int)]) = .nx (dgF ns G (some (.int k)) (some (.int cell)) (some (.int t)) (some (.int s'))) (G ++ [.lst (ds'.map D.int)]) ∧ ds'.length ≤ ds.length + 1 := by
  have hm : ds.length < maxLine := by unfold maxLine; omega
  exact ⟨ds ++ [(seed * 16807 + 7 * t + 1) % 2147483647 / 997 % 1000], (seed * 16807 + 7 * t + 1) % 2147483647, by unfold L__law_digits_13 sSeq; rw [dg_seed, seqR_nx, dg_app hm], by rw [List.length_append]; exact Nat.le_refl _⟩
theorem dg_test {ns : List Int} {G G' : GS} {k c : Int} {t s : Option D} : C__law_digits_6 (dgF ns G (some (.int k)) (some (.int c)) t s) G' = .ok (decide (1000000000000000000 ≤ c)) G' := by
  unfold dgF C__law_digits_6
  simp only [pow18, dT, eBin, eVar, eCst, cGe, truth, bindE_ok, List.getElem?_cons_zero, List.getElem?_cons_succ]
theorem dg_seed1 {ns : List Int} {G G' : GS} {k c : Int} {t s : Option D} : ∃ s', S__law_digits_12 (dgF ns G (some (.int k)) (some (.int c)) t s) G' = .nx (dgF ns G (some (.int k)) (some (.int c)) t (some (.int s'))) G' := by
  refine ⟨(c * 48271 + k * 69621 + 11) % 2147483647, ?_⟩
  unfold dgF S__law_digits_12
  simp only [modL _ 2147483647 (by omega), mulR _ 48271 (by omega), mulR _ 69621 (by omega), bIxA, sSetIA, setIA, keyD, cInA, runF, sSeq, sAsg, sSetI, sIf, sRet, sRetN, sExp, sBrk, sCont, sNil, sFor, sAug, sAsgG, asgR, gN, gT, gsCons, gsNil, iSeqL, iSeqT, iRg1, iRg2, eBin, eUn, eVar, eCst, eApp, eCall, eTup, eLst, eNew, eSl, oSome, oNone, aCons, aNil, dT, dAnd, dOr, dNot, eAnd, eOr, eNot, eIf, truth, eMt, isLst, isStr, seqOf, lstOf, setI, bIx, bAdd, bSub, bNeg, bIadd, cLt, cLe, cGt, cGe, cIsN, fLen, fMax, fMin, fAbs, fInt, fStr, fTuple, fList, mAppend, bSl, bindE_ok, bindE_exc, bindE_bad, bindS_ok, bindS_exc, bindS_bad, seqR_nx, seqR_ret, seqR_brk, seqR_cont, seqR_exc, seqR_bad, turnR_nx, turnR_ret, turnR_brk, turnR_cont, turnR_exc, turnR_bad, atI_0, atI_1, atI_lit, atI_natC, ixN_0, ixN_1, ixN_nat, List.map_cons, List.map_nil, List.length_cons, List.length_nil, List.length_map, List.cons_append, List.nil_append, List.replicate, List.getElem?_cons_zero, List.getElem?_cons_succ, List.set_cons_zero, List.set_cons_succ, List.length_set, Option.isSome_some, Nat.sub_self, Nat.reduceAdd, Nat.reduceSub, Nat.reduceLT, if_true, if_false, ite_true, ite_false, reduceIte, Bool.false_eq_true, Bool.true_eq_false, decide_eq_true_eq, Bool.not_true, Bool.not_false, Nat.zero_add, true_and, and_true, false_and, and_false, and_self, Bool.xor_false, Bool.false_xor, Bool.true_xor, Bool.xor_true, get_new, set_new, get_new1, set_new1, le_0, le_1, le_2, le_3, le_4, le_5, le_6, le_7, le_8, cIn_one, cEq_int, cEq_str, cEq_bl]
theorem dg_big {ns : List Int} {G : GS} {ds : List Int} {k c : Int} {t s : Option D} (h : ds.length < 90000) :
    ∃ (ds' : List Int) (b' t' s' : Option D), S__law_digits_6 (dgF ns G (some (.int k)) (some (.int c)) t s) (G ++ [.lst (ds.map D.int)]) = .nx (dgF ns G (some (.int k)) b' t' s') (G ++ [.lst (ds'.map D.int)]) ∧ ds'.length ≤ ds.length + 60 := by
  unfold S__law_digits_6 S__law_digits_7 S__law_digits_13 sIf
  rw [dg_test, bindS_ok]
  by_cases hg : (1000000000000000000 : Int) ≤ c
  · obtain ⟨σ', G', e, ds', c', t', s', rfl, rfl, hl⟩ := for_inv (g := gN 6) (body := L__law_digits_7) (fun i σ G' => ∃ (ds' : List Int) (c' : Int) (t' s' : Option D), σ = dgF ns G (some (.int k)) (some (.int c')) t' s' ∧ G' = G ++ [.lst (ds'.map D.int)] ∧ ds'.length ≤ ds.length + i)
      (rngD 0 (60 : Int).toNat) 0 _ _ ⟨ds, c, t, s, rfl, rfl, Nat.le_refl _⟩ (by
        rintro j d σ G1 hd ⟨ds1, c1, t1, s1, rfl, rfl, hl⟩
        obtain ⟨hj, rfl⟩ := rngD_get hd
        have hj : j < 60 := hj
        obtain ⟨ds2, c2, e2, h2⟩ := dg_turn1 (ns := ns) (G := G) (ds := ds1) (k := k) (cell := c1) (t := some (.int (0 + (j : Int)))) (s := s1) (by omega)
        exact ⟨_, _, _, rfl, .inl e2, ds2, c2, _, _, rfl, rfl, by omega⟩)
    rw [rngD_len] at hl
    have h60 : (60 : Int).toNat = 60 := rfl
    refine ⟨ds', some (.int c'), t', s', ?_, by omega⟩
    rw [decide_eq_true hg, if_pos rfl, ← e]
    simp only [sFor, iRg1, aCons, aNil, eCst, bindE_ok, bindS_ok, rng1_ok (n := 60) (by decide) (by decide)]
  · obtain ⟨s0, es⟩ := dg_seed1 (ns := ns) (G := G) (G' := G ++ [.lst (ds.map D.int)]) (k := k) (c := c) (t := t) (s := s)
    obtain ⟨σ', G', e, ds', t', s', rfl, rfl, hl⟩ := for_inv (g := gN 6) (body := L__law_digits_13) (fun i σ G' => ∃ (ds' : List Int) (t' : Option D) (s' : Int), σ = dgF ns G (some (.int k)) (some (.int c)) t' (some (.int s')) ∧ G' = G ++ [.lst (ds'.map D.int)] ∧ ds'.length ≤ ds.length + i)
      (rngD 0 (12 : Int).toNat) 0 _ _ ⟨ds, t, s0, rfl, rfl, Nat.le_refl _⟩ (by
        rintro j d σ G1 hd ⟨ds1, t1, s1, rfl, rfl, hl⟩
        obtain ⟨hj, rfl⟩ := rngD_get hd
        have hj : j < 12 := hj
        obtain ⟨ds2, s2, e2, h2⟩ := dg_turn2 (ns := ns) (G := G) (ds := ds1) (k := k) (cell := c) (t := 0 + (j : Int)) (seed := s1) (by omega)
        exact ⟨_, _, _, rfl, .inl e2, ds2, _, _, rfl, rfl, by omega⟩)
    rw [rngD_len] at hl
    have h12 : (12 : Int).toNat = 12 := rfl
    refine ⟨ds', some (.int c), t', some (.int s'), ?_, by omega⟩
    rw [decide_eq_false hg, if_neg Bool.false_ne_true, ← e]
    unfold sSeq
    rw [es, seqR_nx]
    simp only [sFor, iRg1, aCons, aNil, eCst, bindE_ok, bindS_ok, rng1_ok (n := 12) (by decide) (by decide)]
theorem dg_turn3 {ns : List Int} {G : GS} {ds : List Int} {k : Nat} {b t s : Option D} (h : ds.length < 90000) :
    ∃ (ds' : List Int) (b' t' s' : Option D), L__law_digits_2 (dgF ns G (some (.int k)) b t s) (G ++ [.lst (ds.map D.int)]) = .nx (dgF ns G (some (.int k)) b' t' s') (G ++ [.lst (ds'.map D.int)]) ∧ ds'.length ≤ ds.length + 60 := by
  obtain ⟨cell, hc⟩ := cell_eq (ns := ns) (k := k) (G := G ++ [.lst (ds.map D.int)])
  have e1 : S__law_digits_3 (dgF ns G (some (.int k)) b t s) (G ++ [.lst (ds.map D.int)]) = .nx (dgF ns G (some (.int k)) (some (.int cell)) t s) (G ++ [.lst (ds.map D.int)]) := by
    unfold dgF
    simp only [S__law_digits_3, hc, bIxA, sSetIA, setIA, keyD, cInA, runF, sSeq, sAsg, sSetI, sIf, sRet, sRetN, sExp, sBrk, sCont, sNil, sFor, sAug, sAsgG, asgR, gN, gT, gsCons, gsNil, iSeqL, iSeqT, iRg1, iRg2, eBin, eUn, eVar, eCst, eApp, eCall, eTup, eLst, eNew, eSl, oSome, oNone, aCons, aNil, dT, dAnd, dOr, dNot, eAnd, eOr, eNot, eIf, truth, eMt, isLst, isStr, seqOf, lstOf, setI, bIx, bAdd, bSub, bNeg, bIadd, cLt, cLe, cGt, cGe, cIsN, fLen, fMax, fMin, fAbs, fInt, fStr, fTuple, fList, mAppend, bSl, bindE_ok, bindE_exc, bindE_bad, bindS_ok, bindS_exc, bindS_bad, seqR_nx, seqR_ret, seqR_brk, seqR_cont, seqR_exc, seqR_bad, turnR_nx, turnR_ret, turnR_brk, turnR_cont, turnR_exc, turnR_bad, atI_0, atI_1, atI_lit, atI_natC, ixN_0, ixN_1, ixN_nat, List.map_cons, List.map_nil, List.length_cons, List.length_nil, List.length_map, List.cons_append, List.nil_append, List.replicate, List.getElem?_cons_zero, List.getElem?_cons_succ, List.set_cons_zero, List.set_cons_succ, List.length_set, Option.isSome_some, Nat.sub_self, Nat.reduceAdd, Nat.reduceSub, Nat.reduceLT, if_true, if_false, ite_true, ite_false, reduceIte, Bool.false_eq_true, Bool.true_eq_false, decide_eq_true_eq, Bool.not_true, Bool.not_false, Nat.zero_add, true_and, and_true, false_and, and_false, and_self, Bool.xor_false, Bool.false_xor, Bool.true_xor, Bool.xor_true, get_new, set_new, get_new1, set_new1, le_0, le_1, le_2, le_3, le_4, le_5, le_6, le_7, le_8, cIn_one, cEq_int, cEq_str, cEq_bl]
  have e2 : ∃ c, S__law_digits_4 (dgF ns G (some (.int k)) (some (.int cell)) t s) (G ++ [.lst (ds.map D.int)]) = .nx (dgF ns G (some (.int k)) (some (.int c)) t s) (G ++ [.lst (ds.map D.int)]) := by
    unfold dgF
    by_cases hn : cell < 0
    · refine ⟨1 - 2 * cell, ?_⟩
      simp only [S__law_digits_4, C__law_digits_4, S__law_digits_5, hn, mulL 2 _ (by omega), decide_true, bIxA, sSetIA, setIA, keyD, cInA, runF, sSeq, sAsg, sSetI, sIf, sRet, sRetN, sExp, sBrk, sCont, sNil, sFor, sAug, sAsgG, asgR, gN, gT, gsCons, gsNil, iSeqL, iSeqT, iRg1, iRg2, eBin, eUn, eVar, eCst, eApp, eCall, eTup, eLst, eNew, eSl, oSome, oNone, aCons, aNil, dT, dAnd, dOr, dNot, eAnd, eOr, eNot, eIf, truth, eMt, isLst, isStr, seqOf, lstOf, setI, bIx, bAdd, bSub, bNeg, bIadd, cLt, cLe, cGt, cGe, cIsN, fLen, fMax, fMin, fAbs, fInt, fStr, fTuple, fList, mAppend, bSl, bindE_ok, bindE_exc, bindE_bad, bindS_ok, bindS_exc, bindS_bad, seqR_nx, seqR_ret, seqR_brk, seqR_cont, seqR_exc, seqR_bad, turnR_nx, turnR_ret, turnR_brk, turnR_cont, turnR_exc, turnR_bad, atI_0, atI_1, atI_lit, atI_natC, ixN_0, ixN_1, ixN_nat, List.map_cons, List.map_nil, List.length_cons, List.length_nil, List.length_map, List.cons_append, List.nil_append, List.replicate, List.getElem?_cons_zero, List.getElem?_cons_succ, List.set_cons_zero, List.set_cons_succ, List.length_set, Option.isSome_some, Nat.sub_self, Nat.reduceAdd, Nat.reduceSub, Nat.reduceLT, if_true, if_false, ite_true, ite_false, reduceIte, Bool.false_eq_true, Bool.true_eq_false, decide_eq_true_eq, Bool.not_true, Bool.not_false, Nat.zero_add, true_and, and_true, false_and, and_false, and_self, Bool.xor_false, Bool.false_xor, Bool.true_xor, Bool.xor_true, get_new, set_new, get_new1, set_new1, le_0, le_1, le_2, le_3, le_4, le_5, le_6, le_7, le_8, cIn_one, cEq_int, cEq_str, cEq_bl]
    · refine ⟨cell, ?_⟩
      simp only [S__law_digits_4, C__law_digits_4, hn, decide_false, bIxA, sSetIA, setIA, keyD, cInA, runF, sSeq, sAsg, sSetI, sIf, sRet, sRetN, sExp, sBrk, sCont, sNil, sFor, sAug, sAsgG, asgR, gN, gT, gsCons, gsNil, iSeqL, iSeqT, iRg1, iRg2, eBin, eUn, eVar, eCst, eApp, eCall, eTup, eLst, eNew, eSl, oSome, oNone, aCons, aNil, dT, dAnd, dOr, dNot, eAnd, eOr, eNot, eIf, truth, eMt, isLst, isStr, seqOf, lstOf, setI, bIx, bAdd, bSub, bNeg, bIadd, cLt, cLe, cGt, cGe, cIsN, fLen, fMax, fMin, fAbs, fInt, fStr, fTuple, fList, mAppend, bSl, bindE_ok, bindE_exc, bindE_bad, bindS_ok, bindS_exc, bindS_bad, seqR_nx, seqR_ret, seqR_brk, seqR_cont, seqR_exc, seqR_bad, turnR_nx, turnR_ret, turnR_brk, turnR_cont, turnR_exc, turnR_bad, atI_0, atI_1, atI_lit, atI_natC, ixN_0, ixN_1, ixN_nat, List.map_cons, List.map_nil, List.length_cons, List.length_nil, List.length_map, List.cons_append, List.nil_append, List.replicate, List.getElem?_cons_zero, List.getElem?_cons_succ, List.set_cons_zero, List.set_cons_succ, List.length_set, Option.isSome_some, Nat.sub_self, Nat.reduceAdd, Nat.reduceSub, Nat.reduceLT, if_true, if_false, ite_true, ite_false, reduceIte, Bool.false_eq_true, Bool.true_eq_false, decide_eq_true_eq, Bool.not_true, Bool.not_false, Nat.zero_add, true_and, and_true, false_and, and_false, and_self, Bool.xor_false, Bool.false_xor, Bool.true_xor, Bool.xor_true, get_new, set_new, get_new1, set_new1, le_0, le_1, le_2, le_3, le_4, le_5, le_6, le_7, le_8, cIn_one, cEq_int, cEq_str, cEq_bl]
  obtain ⟨c, e2⟩ := e2
  obtain ⟨ds', b', t', s', e3, hl⟩ := dg_big (ns := ns) (G := G) (ds := ds) (k := k) (c := c) (t := t) (s := s) h
  refine ⟨ds', b', t', s', ?_, hl⟩
  unfold L__law_digits_2 sSeq
  rw [e1, seqR_nx, e2, seqR_nx, e3]
theorem digits_eq {ns : List Int} {G : GS} : ∃ ds : List Int, F__law_digits [.scr ns, .int 0, .int 63] G = .ok (.lst (ds.map D.int)) G ∧ ds.length ≤ 3780 := by
  obtain ⟨σ', G', e, ds, a, b, c, d, rfl, rfl, hl⟩ := for_inv (g := gN 4) (body := L__law_digits_2) (fun i σ G' => ∃ (ds : List Int) (a b c d : Option D), σ = dgF ns G a b c d ∧ G' = G ++ [.lst (ds.map D.int)] ∧ ds.length ≤ 60 * i)
    (rngD 0 (63 - 0 : Int).toNat) 0 (dgF ns G none none none none) (G ++ [.lst ([].map D.int)]) ⟨[], _, _, _, _, rfl, rfl, Nat.zero_le _⟩ (by
      rintro j d σ G1 hd ⟨ds1, a1, b1, c1, d1, rfl, rfl, hl⟩
      obtain ⟨hj, rfl⟩ := rngD_get hd
      obtain ⟨ds2, b2, c2, d2, e2, h2⟩ := dg_turn3 (ns := ns) (G := G) (ds := ds1) (k := j) (b := b1) (t := c1) (s := d1) (by simp at hj; omega)
      exact ⟨dgF ns G (some (.int (0 + (j : Int)))) b1 c1 d1, _, _, rfl, .inl (by rw [Int.zero_add]; exact e2), ds2, _, _, _, _, rfl, rfl, by omega⟩)
  rw [rngD_len] at hl
  refine ⟨ds, ?_, by simpa using hl⟩
  unfold dgF at e
  simp only [List.map_nil] at e
  simp only [S__law_digits_1, S__law_digits_3, C__law_digits_4, S__law_digits_5, S__law_digits_4, C__law_digits_6, C__law_digits_8, S__law_digits_9, S__law_digits_10, S__law_digits_8, S__law_digits_7, S__law_digits_12, S__law_digits_14, S__law_digits_15, S__law_digits_13, S__law_digits_6, S__law_digits_2, S__law_digits_16, B__law_digits, F__law_digits, rng2_ok (m := 0) (n := 63) (by decide) (by decide) (by decide) (by decide), e, bIxA, sSetIA, setIA, keyD, cInA, runF, sSeq, sAsg, sSetI, sIf, sRet, sRetN, sExp, sBrk, sCont, sNil, sFor, sAug, sAsgG, asgR, gN, gT, gsCons, gsNil, iSeqL, iSeqT, iRg1, iRg2, eBin, eUn, eVar, eCst, eApp, eCall, eTup, eLst, eNew, eSl, oSome, oNone, aCons, aNil, dT, dAnd, dOr, dNot, eAnd, eOr, eNot, eIf, truth, eMt, isLst, isStr, seqOf, lstOf, setI, bIx, bAdd, bSub, bNeg, bIadd, cLt, cLe, cGt, cGe, cIsN, fLen, fMax, fMin, fAbs, fInt, fStr, fTuple, fList, mAppend, bSl, bindE_ok, bindE_exc, bindE_bad, bindS_ok, bindS_exc, bindS_bad, seqR_nx, seqR_ret, seqR_brk, seqR_cont, seqR_exc, seqR_bad, turnR_nx, turnR_ret, turnR_brk, turnR_cont, turnR_exc, turnR_bad, atI_0, atI_1, atI_lit, atI_natC, ixN_0, ixN_1, ixN_nat, List.map_cons, List.map_nil, List.length_cons, List.length_nil, List.length_map, List.cons_append, List.nil_append, List.replicate, List.getElem?_cons_zero, List.getElem?_cons_succ, List.set_cons_zero, List.set_cons_succ, List.length_set, Option.isSome_some, Nat.sub_self, Nat.reduceAdd, Nat.reduceSub, Nat.reduceLT, if_true, if_false, ite_true, ite_false, reduceIte, Bool.false_eq_true, Bool.true_eq_false, decide_eq_true_eq, Bool.not_true, Bool.not_false, Nat.zero_add, true_and, and_true, false_and, and_false, and_self, Bool.xor_false, Bool.false_xor, Bool.true_xor, Bool.xor_true, get_new, set_new, get_new1, set_new1, le_0, le_1, le_2, le_3, le_4, le_5, le_6, le_7, le_8, cIn_one, cEq_int, cEq_str, cEq_bl]
  exact finish_ref0 (nrDs_ints ds)
/-! ## _law_run -/
theorem run_eq {ds : List Int} {a : Nat} {n : Nat} {cs : List Nat} {G : GS} (hn : n ≤ 1000) (hc : cs ≠ []) (hc2 : cs.length ≤ 1000) :
    ∃ t : List Nat, F__law_run [.ref 0, .int n, .str cs] (box ds a :: G) = .ok (.str t) (box ds (a + n) :: G) ∧ t.length = n ∧ ∀ c ∈ t, c ∈ cs := by
  have hl0 : 0 < cs.length := List.length_pos_iff.mpr hc
  have hcm : cs.length ≤ maxLine := by unfold maxLine; omega
  obtain ⟨σ', G', e, t, d, rfl, rfl, h1, h2⟩ := for_rng (g := gN 4) (body := L__law_run_2) (n := n) (fun i σ G' => ∃ (t : List Nat) (d : Option D), σ = [some (.ref 0), some (.int n), some (.str cs), some (.str t), d] ∧ G' = box ds (a + i) :: G ∧ t.length = i ∧ ∀ c ∈ t, c ∈ cs)
    (σ := [some (.ref 0), some (.int n), some (.str cs), some (.str (lit "")), none]) (G := box ds a :: G) ⟨[], none, rfl, rfl, rfl, fun c h => by simp at h⟩ (by
      rintro j σ G1 hj ⟨t, d0, rfl, rfl, h1, h2⟩
      have rg := draw_range ds (a + j) (m := (cs.length : Int)) (by omega)
      have hx : (drawV ds (a + j) cs.length).toNat < cs.length := by omega
      have ha : atI cs (drawV ds (a + j) cs.length) = some cs[(drawV ds (a + j) cs.length).toNat] := by rw [atI_toNat _ rg.1, List.getElem?_eq_getElem hx]
      have hlen : t.length + 1 ≤ maxLine := by unfold maxLine; omega
      refine ⟨_, _, _, rfl, .inl ?_, t ++ [cs[(drawV ds (a + j) cs.length).toNat]], some (.int (j : Int)), rfl, rfl, by simp [h1], fun c hc => ?_⟩
      · simp only [S__law_run_1, S__law_run_3, L__law_run_2, S__law_run_2, S__law_run_4, hcm, draw_eq (ds := ds) (m := (cs.length : Int)) (by omega), ha, hlen, bIxA, sSetIA, setIA, keyD, cInA, runF, sSeq, sAsg, sSetI, sIf, sRet, sRetN, sExp, sBrk, sCont, sNil, sFor, sAug, sAsgG, asgR, gN, gT, gsCons, gsNil, iSeqL, iSeqT, iRg1, iRg2, eBin, eUn, eVar, eCst, eApp, eCall, eTup, eLst, eNew, eSl, oSome, oNone, aCons, aNil, dT, dAnd, dOr, dNot, eAnd, eOr, eNot, eIf, truth, eMt, isLst, isStr, seqOf, lstOf, setI, bIx, bAdd, bSub, bNeg, bIadd, cLt, cLe, cGt, cGe, cIsN, fLen, fMax, fMin, fAbs, fInt, fStr, fTuple, fList, mAppend, bSl, bindE_ok, bindE_exc, bindE_bad, bindS_ok, bindS_exc, bindS_bad, seqR_nx, seqR_ret, seqR_brk, seqR_cont, seqR_exc, seqR_bad, turnR_nx, turnR_ret, turnR_brk, turnR_cont, turnR_exc, turnR_bad, atI_0, atI_1, atI_lit, atI_natC, ixN_0, ixN_1, ixN_nat, List.map_cons, List.map_nil, List.length_cons, List.length_nil, List.length_map, List.cons_append, List.nil_append, List.replicate, List.getElem?_cons_zero, List.getElem?_cons_succ, List.set_cons_zero, List.set_cons_succ, List.length_set, Option.isSome_some, Nat.sub_self, Nat.reduceAdd, Nat.reduceSub, Nat.reduceLT, if_true, if_false, ite_true, ite_false, reduceIte, Bool.false_eq_true, Bool.true_eq_false, decide_eq_true_eq, Bool.not_true, Bool.not_false, Nat.zero_add, true_and, and_true, false_and, and_false, and_self, Bool.xor_false, Bool.false_xor, Bool.true_xor, Bool.xor_true, get_new, set_new, get_new1, set_new1, le_0, le_1, le_2, le_3, le_4, le_5, le_6, le_7, le_8, cIn_one, cEq_int, cEq_str, cEq_bl]
        rfl
      · rcases List.mem_append.mp hc with hc | hc
        · exact h2 c hc
        · rw [List.mem_singleton.mp hc]; exact List.getElem_mem _)
  refine ⟨t, ?_, h1, h2⟩
  simp only [S__law_run_1, S__law_run_3, S__law_run_2, S__law_run_4, B__law_run, F__law_run, rng1_nat (n := n) (by omega), e, bIxA, sSetIA, setIA, keyD, cInA, runF, sSeq, sAsg, sSetI, sIf, sRet, sRetN, sExp, sBrk, sCont, sNil, sFor, sAug, sAsgG, asgR, gN, gT, gsCons, gsNil, iSeqL, iSeqT, iRg1, iRg2, eBin, eUn, eVar, eCst, eApp, eCall, eTup, eLst, eNew, eSl, oSome, oNone, aCons, aNil, dT, dAnd, dOr, dNot, eAnd, eOr, eNot, eIf, truth, eMt, isLst, isStr, seqOf, lstOf, setI, bIx, bAdd, bSub, bNeg, bIadd, cLt, cLe, cGt, cGe, cIsN, fLen, fMax, fMin, fAbs, fInt, fStr, fTuple, fList, mAppend, bSl, bindE_ok, bindE_exc, bindE_bad, bindS_ok, bindS_exc, bindS_bad, seqR_nx, seqR_ret, seqR_brk, seqR_cont, seqR_exc, seqR_bad, turnR_nx, turnR_ret, turnR_brk, turnR_cont, turnR_exc, turnR_bad, atI_0, atI_1, atI_lit, atI_natC, ixN_0, ixN_1, ixN_nat, List.map_cons, List.map_nil, List.length_cons, List.length_nil, List.length_map, List.cons_append, List.nil_append, List.replicate, List.getElem?_cons_zero, List.getElem?_cons_succ, List.set_cons_zero, List.set_cons_succ, List.length_set, Option.isSome_some, Nat.sub_self, Nat.reduceAdd, Nat.reduceSub, Nat.reduceLT, if_true, if_false, ite_true, ite_false, reduceIte, Bool.false_eq_true, Bool.true_eq_false, decide_eq_true_eq, Bool.not_true, Bool.not_false, Nat.zero_add, true_and, and_true, false_and, and_false, and_self, Bool.xor_false, Bool.false_xor, Bool.true_xor, Bool.xor_true, get_new, set_new, get_new1, set_new1, le_0, le_1, le_2, le_3, le_4, le_5, le_6, le_7, le_8, cIn_one, cEq_int, cEq_str, cEq_bl]
  exact finish_same rfl
/-! ## _law_same -/
theorem same_seq {k : Nat} {a d : D} {G : GS} {es fs : List D} {t : String} (ha : seqOf G a = some es) (hd : seqOf G d = some fs) (hl : es.length = fs.length) (ta : tyD G a = some t) (td : tyD G d = some t) (ht : t = "list" ∨ t = "tuple") (hb : fs.length < 1000000)
    (ih : ∀ (j : Nat) x y, es[j]? = some x → fs[j]? = some y → F__law_same k [x, y] G = .ok (.bl true) G) : F__law_same (k + 1) [a, d] G = .ok (.bl true) G := by
  obtain ⟨σ', G', e, dd, rfl, rfl⟩ := for_rng (g := gN 2) (body := L__law_same_6 (F__law_same k)) (n := fs.length) (fun i σ G' => ∃ (dd : Option D), σ = [some a, some d, dd] ∧ G' = G)
    (σ := [some a, some d, none]) (G := G) ⟨none, rfl, rfl⟩ (by
      rintro j σ G1 hj ⟨dd, rfl, rfl⟩
      have hx : es[j]? = some es[j] := List.getElem?_eq_getElem (by omega)
      have hy : fs[j]? = some fs[j] := List.getElem?_eq_getElem hj
      refine ⟨_, _, _, rfl, .inl ?_, some (.int (j : Int)), rfl, rfl⟩
      simp only [C__law_same_1, C__law_same_2, S__law_same_3, S__law_same_2, C__law_same_4, S__law_same_5, S__law_same_4, C__law_same_7, S__law_same_8, S__law_same_7, L__law_same_6, S__law_same_6, S__law_same_9, S__law_same_1, C__law_same_10, S__law_same_11, S__law_same_10, C__law_same_12, S__law_same_13, S__law_same_12, C__law_same_14, S__law_same_15, S__law_same_14, S__law_same_16, sIf, dNot, dT, eCall, aCons, aNil, eBin, eVar, truth, sNil, bindE_ok, bindS_ok, List.getElem?_cons_zero, List.getElem?_cons_succ, bIxA_seq ha hx, bIxA_seq hd hy, ih j _ _ hx hy, Bool.not_true, Bool.false_eq_true, if_false, List.set_cons_zero, List.set_cons_succ])
  have hlen : (decide ((es.length : Int) = (fs.length : Int))) = true := by simp [hl]
  simp only [C__law_same_1, C__law_same_2, S__law_same_3, S__law_same_2, C__law_same_4, S__law_same_5, S__law_same_4, C__law_same_7, S__law_same_8, S__law_same_7, S__law_same_6, S__law_same_9, S__law_same_1, C__law_same_10, S__law_same_11, S__law_same_10, C__law_same_12, S__law_same_13, S__law_same_12, C__law_same_14, S__law_same_15, S__law_same_14, S__law_same_16, B__law_same, F__law_same, runF, List.map_cons, List.map_nil, List.length_cons, List.length_nil, List.replicate, List.cons_append, List.nil_append, Nat.reduceAdd, Nat.reduceSub, Nat.zero_add]
  rcases ht with rfl | rfl
  · simp only [isi_of td kit_ll, isi_of ta kit_ll, isi_of ta kit_lt, isi_of td kit_lt, fLen_seq ha, fLen_seq hd, hlen, rng1_nat (n := fs.length) (by omega), e,
      sSeq, sIf, dOr, dT, eUn, eVar, eBin, eApp, aCons, aNil, sFor, iRg1, sRet, sNil, truth, eCst, cEq_bl, cEq_int, bindE_ok, bindS_ok, seqR_nx, seqR_ret, List.getElem?_cons_zero, List.getElem?_cons_succ, if_true, if_false, Bool.false_eq_true, decide_true, Bool.xor_true, Bool.not_true, reduceIte]
    exact finish_same rfl
  · simp only [isi_of td kit_tl, isi_of ta kit_tl, isi_of ta kit_tt, isi_of td kit_tt, fLen_seq ha, fLen_seq hd, hlen, rng1_nat (n := fs.length) (by omega), e,
      sSeq, sIf, dOr, dT, eUn, eVar, eBin, eApp, aCons, aNil, sFor, iRg1, sRet, sNil, truth, eCst, cEq_bl, cEq_int, bindE_ok, bindS_ok, seqR_nx, seqR_ret, List.getElem?_cons_zero, List.getElem?_cons_succ, if_true, if_false, Bool.false_eq_true, decide_true, Bool.xor_true, Bool.not_true, reduceIte]
    exact finish_same rfl
theorem same_non {k : Nat} {G : GS} : F__law_same (k + 1) [.non, .non] G = .ok (.bl true) G := by
  simp only [C__law_same_1, C__law_same_2, S__law_same_3, S__law_same_2, C__law_same_4, S__law_same_5, S__law_same_4, C__law_same_7, S__law_same_8, S__law_same_7, S__law_same_6, S__law_same_9, S__law_same_1, C__law_same_10, S__law_same_11, S__law_same_10, C__law_same_12, S__law_same_13, S__law_same_12, C__law_same_14, S__law_same_15, S__law_same_14, S__law_same_16, B__law_same, F__law_same, isi_of (show tyD G .non = some "NoneType" from rfl) kit_nl, isi_of (show tyD G .non = some "NoneType" from rfl) kit_nt, bIxA, sSetIA, setIA, keyD, cInA, runF, sSeq, sAsg, sSetI, sIf, sRet, sRetN, sExp, sBrk, sCont, sNil, sFor, sAug, sAsgG, asgR, gN, gT, gsCons, gsNil, iSeqL, iSeqT, iRg1, iRg2, eBin, eUn, eVar, eCst, eApp, eCall, eTup, eLst, eNew, eSl, oSome, oNone, aCons, aNil, dT, dAnd, dOr, dNot, eAnd, eOr, eNot, eIf, truth, eMt, isLst, isStr, seqOf, lstOf, setI, bIx, bAdd, bSub, bNeg, bIadd, cLt, cLe, cGt, cGe, cIsN, fLen, fMax, fMin, fAbs, fInt, fStr, fTuple, fList, mAppend, bSl, bindE_ok, bindE_exc, bindE_bad, bindS_ok, bindS_exc, bindS_bad, seqR_nx, seqR_ret, seqR_brk, seqR_cont, seqR_exc, seqR_bad, turnR_nx, turnR_ret, turnR_brk, turnR_cont, turnR_exc, turnR_bad, atI_0, atI_1, atI_lit, atI_natC, ixN_0, ixN_1, ixN_nat, List.map_cons, List.map_nil, List.length_cons, List.length_nil, List.length_map, List.cons_append, List.nil_append, List.replicate, List.getElem?_cons_zero, List.getElem?_cons_succ, List.set_cons_zero, List.set_cons_succ, List.length_set, Option.isSome_some, Nat.sub_self, Nat.reduceAdd, Nat.reduceSub, Nat.reduceLT, if_true, if_false, ite_true, ite_false, reduceIte, Bool.false_eq_true, Bool.true_eq_false, decide_eq_true_eq, Bool.not_true, Bool.not_false, Nat.zero_add, true_and, and_true, false_and, and_false, and_self, Bool.xor_false, Bool.false_xor, Bool.true_xor, Bool.xor_true, get_new, set_new, get_new1, set_new1, le_0, le_1, le_2, le_3, le_4, le_5, le_6, le_7, le_8, cIn_one, cEq_int, cEq_str, cEq_bl]
  exact finish_same rfl
theorem same_bl {k : Nat} {b : Bool} {G : GS} : F__law_same (k + 1) [.bl b, .bl b] G = .ok (.bl true) G := by
  have t := show tyD G (.bl b) = some "bool" from rfl
  simp only [C__law_same_1, C__law_same_2, S__law_same_3, S__law_same_2, C__law_same_4, S__law_same_5, S__law_same_4, C__law_same_7, S__law_same_8, S__law_same_7, S__law_same_6, S__law_same_9, S__law_same_1, C__law_same_10, S__law_same_11, S__law_same_10, C__law_same_12, S__law_same_13, S__law_same_12, C__law_same_14, S__law_same_15, S__law_same_14, S__law_same_16, B__law_same, F__law_same, isi_of t kit_bl, isi_of t kit_bt, isi_of t kit_bb, decide_true, bIxA, sSetIA, setIA, keyD, cInA, runF, sSeq, sAsg, sSetI, sIf, sRet, sRetN, sExp, sBrk, sCont, sNil, sFor, sAug, sAsgG, asgR, gN, gT, gsCons, gsNil, iSeqL, iSeqT, iRg1, iRg2, eBin, eUn, eVar, eCst, eApp, eCall, eTup, eLst, eNew, eSl, oSome, oNone, aCons, aNil, dT, dAnd, dOr, dNot, eAnd, eOr, eNot, eIf, truth, eMt, isLst, isStr, seqOf, lstOf, setI, bIx, bAdd, bSub, bNeg, bIadd, cLt, cLe, cGt, cGe, cIsN, fLen, fMax, fMin, fAbs, fInt, fStr, fTuple, fList, mAppend, bSl, bindE_ok, bindE_exc, bindE_bad, bindS_ok, bindS_exc, bindS_bad, seqR_nx, seqR_ret, seqR_brk, seqR_cont, seqR_exc, seqR_bad, turnR_nx, turnR_ret, turnR_brk, turnR_cont, turnR_exc, turnR_bad, atI_0, atI_1, atI_lit, atI_natC, ixN_0, ixN_1, ixN_nat, List.map_cons, List.map_nil, List.length_cons, List.length_nil, List.length_map, List.cons_append, List.nil_append, List.replicate, List.getElem?_cons_zero, List.getElem?_cons_succ, List.set_cons_zero, List.set_cons_succ, List.length_set, Option.isSome_some, Nat.sub_self, Nat.reduceAdd, Nat.reduceSub, Nat.reduceLT, if_true, if_false, ite_true, ite_false, reduceIte, Bool.false_eq_true, Bool.true_eq_false, decide_eq_true_eq, Bool.not_true, Bool.not_false, Nat.zero_add, true_and, and_true, false_and, and_false, and_self, Bool.xor_false, Bool.false_xor, Bool.true_xor, Bool.xor_true, get_new, set_new, get_new1, set_new1, le_0, le_1, le_2, le_3, le_4, le_5, le_6, le_7, le_8, cIn_one, cEq_int, cEq_str, cEq_bl]
  exact finish_same rfl
theorem same_str {k : Nat} {s : List Nat} {G : GS} : F__law_same (k + 1) [.str s, .str s] G = .ok (.bl true) G := by
  have t := show tyD G (.str s) = some "str" from rfl
  simp only [C__law_same_1, C__law_same_2, S__law_same_3, S__law_same_2, C__law_same_4, S__law_same_5, S__law_same_4, C__law_same_7, S__law_same_8, S__law_same_7, S__law_same_6, S__law_same_9, S__law_same_1, C__law_same_10, S__law_same_11, S__law_same_10, C__law_same_12, S__law_same_13, S__law_same_12, C__law_same_14, S__law_same_15, S__law_same_14, S__law_same_16, B__law_same, F__law_same, isi_of t kit_sl, isi_of t kit_st, isi_of t kit_sb, isi_of t kit_ss, decide_true, bIxA, sSetIA, setIA, keyD, cInA, runF, sSeq, sAsg, sSetI, sIf, sRet, sRetN, sExp, sBrk, sCont, sNil, sFor, sAug, sAsgG, asgR, gN, gT, gsCons, gsNil, iSeqL, iSeqT, iRg1, iRg2, eBin, eUn, eVar, eCst, eApp, eCall, eTup, eLst, eNew, eSl, oSome, oNone, aCons, aNil, dT, dAnd, dOr, dNot, eAnd, eOr, eNot, eIf, truth, eMt, isLst, isStr, seqOf, lstOf, setI, bIx, bAdd, bSub, bNeg, bIadd, cLt, cLe, cGt, cGe, cIsN, fLen, fMax, fMin, fAbs, fInt, fStr, fTuple, fList, mAppend, bSl, bindE_ok, bindE_exc, bindE_bad, bindS_ok, bindS_exc, bindS_bad, seqR_nx, seqR_ret, seqR_brk, seqR_cont, seqR_exc, seqR_bad, turnR_nx, turnR_ret, turnR_brk, turnR_cont, turnR_exc, turnR_bad, atI_0, atI_1, atI_lit, atI_natC, ixN_0, ixN_1, ixN_nat, List.map_cons, List.map_nil, List.length_cons, List.length_nil, List.length_map, List.cons_append, List.nil_append, List.replicate, List.getElem?_cons_zero, List.getElem?_cons_succ, List.set_cons_zero, List.set_cons_succ, List.length_set, Option.isSome_some, Nat.sub_self, Nat.reduceAdd, Nat.reduceSub, Nat.reduceLT, if_true, if_false, ite_true, ite_false, reduceIte, Bool.false_eq_true, Bool.true_eq_false, decide_eq_true_eq, Bool.not_true, Bool.not_false, Nat.zero_add, true_and, and_true, false_and, and_false, and_self, Bool.xor_false, Bool.false_xor, Bool.true_xor, Bool.xor_true, get_new, set_new, get_new1, set_new1, le_0, le_1, le_2, le_3, le_4, le_5, le_6, le_7, le_8, cIn_one, cEq_int, cEq_str, cEq_bl]
  exact finish_same rfl
theorem same_int {k : Nat} {i : Int} {G : GS} : F__law_same (k + 1) [.int i, .int i] G = .ok (.bl true) G := by
  have t := show tyD G (.int i) = some "int" from rfl
  simp only [C__law_same_1, C__law_same_2, S__law_same_3, S__law_same_2, C__law_same_4, S__law_same_5, S__law_same_4, C__law_same_7, S__law_same_8, S__law_same_7, S__law_same_6, S__law_same_9, S__law_same_1, C__law_same_10, S__law_same_11, S__law_same_10, C__law_same_12, S__law_same_13, S__law_same_12, C__law_same_14, S__law_same_15, S__law_same_14, S__law_same_16, B__law_same, F__law_same, isi_of t kit_il, isi_of t kit_it, isi_of t kit_ib, isi_of t kit_is, isi_of t kit_ii, decide_true, bIxA, sSetIA, setIA, keyD, cInA, runF, sSeq, sAsg, sSetI, sIf, sRet, sRetN, sExp, sBrk, sCont, sNil, sFor, sAug, sAsgG, asgR, gN, gT, gsCons, gsNil, iSeqL, iSeqT, iRg1, iRg2, eBin, eUn, eVar, eCst, eApp, eCall, eTup, eLst, eNew, eSl, oSome, oNone, aCons, aNil, dT, dAnd, dOr, dNot, eAnd, eOr, eNot, eIf, truth, eMt, isLst, isStr, seqOf, lstOf, setI, bIx, bAdd, bSub, bNeg, bIadd, cLt, cLe, cGt, cGe, cIsN, fLen, fMax, fMin, fAbs, fInt, fStr, fTuple, fList, mAppend, bSl, bindE_ok, bindE_exc, bindE_bad, bindS_ok, bindS_exc, bindS_bad, seqR_nx, seqR_ret, seqR_brk, seqR_cont, seqR_exc, seqR_bad, turnR_nx, turnR_ret, turnR_brk, turnR_cont, turnR_exc, turnR_bad, atI_0, atI_1, atI_lit, atI_natC, ixN_0, ixN_1, ixN_nat, List.map_cons, List.map_nil, List.length_cons, List.length_nil, List.length_map, List.cons_append, List.nil_append, List.replicate, List.getElem?_cons_zero, List.getElem?_cons_succ, List.set_cons_zero, List.set_cons_succ, List.length_set, Option.isSome_some, Nat.sub_self, Nat.reduceAdd, Nat.reduceSub, Nat.reduceLT, if_true, if_false, ite_true, ite_false, reduceIte, Bool.false_eq_true, Bool.true_eq_false, decide_eq_true_eq, Bool.not_true, Bool.not_false, Nat.zero_add, true_and, and_true, false_and, and_false, and_self, Bool.xor_false, Bool.false_xor, Bool.true_xor, Bool.xor_true, get_new, set_new, get_new1, set_new1, le_0, le_1, le_2, le_3, le_4, le_5, le_6, le_7, le_8, cIn_one, cEq_int, cEq_str, cEq_bl]
  exact finish_same rfl
/-! ## bills -/
structure Itm where
  nm : List Nat
  ps : List (Nat × Int)
  lead : Int
  lot : Int
  good : Int
def prD (p : Nat × Int) : D := .tup [.int (p.1 : Nat), .int p.2]
def Itm.d (i : Itm) : D := .tup [.str i.nm, .tup (i.ps.map prD), .int i.lead, .int i.lot, .int i.good]
def billD (b : List Itm) : D := .tup (b.map Itm.d)
theorem fLen_bill {b : List Itm} {G : GS} : fLen [billD b] G = .ok (.int (b.length : Nat)) G := by simp [fLen, billD, seqOf]
theorem ixA_bill {b : List Itm} {k : Int} {G : GS} : bIxA (billD b) (.int k) G = ixL (b.map Itm.d) k G := rfl
theorem enumA_bill {b : List Itm} {G : GS} : enumA [billD b] G = .ok (enumD 0 (b.map Itm.d)) G := rfl
theorem forA_bill {g : DG} {s : DS} {b : List Itm} {σ : PEnv} {G : GS} : forA g s (billD b) σ G = forL g s (b.map Itm.d) σ G := rfl
local macro_rules
  | `(tactic| simp only [ZWQ, $ls,*] $[$loc]?) => `(tactic| simp only [$ls,*, fLen_bill, ixA_bill, enumA_bill, forA_bill, wE_srtS, wS_match, wS_mnil, wE_notA, wE_newT, wE_key, keyR_2, wE_getT2, wS_setT, setT_R, setTR_dct, bIxK_R, ixTR_dct, bIxK_int, bxA_key, wE_lr2, wE_aStar, seqW_some, wE_zp, zipR_tup, Bool.true_eq_false, Int.natCast_inj, wE_ok, wE_exc, wE_bad, wE_if, wE_ite, if_F, wE_bind, wS_nil, wS_seq, wS_asg, wS_exp, wS_ret, wS_retN, wS_brk, wS_cont, wS_if, wS_aug, wS_asgG, asgW_some, wS_setI, wS_setIA, wS_fldD, wS_raise, wS_par, wS_parR, wS_for, wS_forA, forA_lst, forA_tup, forA_str, getW_some, wE_var, wE_cst, wE_bin, wE_un, wE_andV, wE_orV, wE_notV, wE_ifx, wE_call, wE_app, wE_appK, wE_tup, wE_lst, wE_new, wE_newD, wE_mt, wE_rem, wE_get2, wE_sl, wE_oNone, intW_int, wE_oSome, wE_aNil, wE_aCons, blW_bl, wE_chain, wE_dT, wE_dTA, wE_truth, wE_dAnd, wE_dOr, wE_dNot, wE_dYes, wE_rg1, wE_rg2, wE_iSA, seqA_lst, seqA_tup, wE_en, enumR_lst, wE_enA, enumA_lst, enumA_tup, wE_rvD, revD_tup, revD_lst, wE_dcN, wE_lr1, gN, gT, gsCons, gsNil, CG.d, setsD, wipeD, isLst, isStr, seqOf, lstOf, setIA_R, setR_lst, setR_dic, setL_nat, setK_int, wS_iff, bxA_lst, bxA_tup, bxA_str, bIxA_dic, bIxA_refR, ixR_lst, ixR_dic, ixL_nat, ixL_lit, ixL_0, ixL_1, ixO_some, bAdd, bSub, bNeg, bIadd, bSl_str, bSl_tup, bSl_lst, cLt, cLe, cGt, cGe, cIsN, fLen_lst, fLen_tup, fLen_scr, fLen_str, fLen_ref, lenR_lst, fMax, fMin, fAbs, fInt, fStr, fTuple, fList, fAny, fAll, lstBls, fSum, lstInts, mAppend, truthA, truV, cEq_int, cEq_str, cEq_bl, Option.bind_some, intsD_ints, blsD_bls, atI_0, atI_1, atI_lit, atI_natC, ixN_0, ixN_1, ixN_nat, List.map_cons, List.map_nil, List.length_cons, List.length_nil, List.length_map, List.cons_append, List.nil_append, List.replicate, List.getElem?_cons_zero, List.getElem?_cons_succ, List.set_cons_zero, List.set_cons_succ, List.length_set, Option.isSome_some, Nat.sub_self, Nat.reduceAdd, Nat.reduceSub, Nat.reduceLT, if_true, if_false, ite_true, ite_false, reduceIte, Bool.false_eq_true, decide_eq_true_eq, Bool.not_true, Bool.not_false, Nat.zero_add, true_and, and_true, false_and, and_false, and_self, Bool.xor_false, Bool.false_xor, Bool.true_xor, Bool.xor_true, get_app, get_app0, set_app, set_app0, List.append_assoc, List.length_append, le_0, le_1, le_2, le_3, le_4, le_5, le_6, le_7, le_8, Bool.not_eq_true', decide_eq_false_iff_not, fin_same] $[$loc]?)
  | `(tactic| simp only [ZWQ] $[$loc]?) => `(tactic| simp only [fLen_bill, ixA_bill, enumA_bill, forA_bill, wE_srtS, wS_match, wS_mnil, wE_notA, wE_newT, wE_key, keyR_2, wE_getT2, wS_setT, setT_R, setTR_dct, bIxK_R, ixTR_dct, bIxK_int, bxA_key, wE_lr2, wE_aStar, seqW_some, wE_zp, zipR_tup, Bool.true_eq_false, Int.natCast_inj, wE_ok, wE_exc, wE_bad, wE_if, wE_ite, if_F, wE_bind, wS_nil, wS_seq, wS_asg, wS_exp, wS_ret, wS_retN, wS_brk, wS_cont, wS_if, wS_aug, wS_asgG, asgW_some, wS_setI, wS_setIA, wS_fldD, wS_raise, wS_par, wS_parR, wS_for, wS_forA, forA_lst, forA_tup, forA_str, getW_some, wE_var, wE_cst, wE_bin, wE_un, wE_andV, wE_orV, wE_notV, wE_ifx, wE_call, wE_app, wE_appK, wE_tup, wE_lst, wE_new, wE_newD, wE_mt, wE_rem, wE_get2, wE_sl, wE_oNone, intW_int, wE_oSome, wE_aNil, wE_aCons, blW_bl, wE_chain, wE_dT, wE_dTA, wE_truth, wE_dAnd, wE_dOr, wE_dNot, wE_dYes, wE_rg1, wE_rg2, wE_iSA, seqA_lst, seqA_tup, wE_en, enumR_lst, wE_enA, enumA_lst, enumA_tup, wE_rvD, revD_tup, revD_lst, wE_dcN, wE_lr1, gN, gT, gsCons, gsNil, CG.d, setsD, wipeD, isLst, isStr, seqOf, lstOf, setIA_R, setR_lst, setR_dic, setL_nat, setK_int, wS_iff, bxA_lst, bxA_tup, bxA_str, bIxA_dic, bIxA_refR, ixR_lst, ixR_dic, ixL_nat, ixL_lit, ixL_0, ixL_1, ixO_some, bAdd, bSub, bNeg, bIadd, bSl_str, bSl_tup, bSl_lst, cLt, cLe, cGt, cGe, cIsN, fLen_lst, fLen_tup, fLen_scr, fLen_str, fLen_ref, lenR_lst, fMax, fMin, fAbs, fInt, fStr, fTuple, fList, fAny, fAll, lstBls, fSum, lstInts, mAppend, truthA, truV, cEq_int, cEq_str, cEq_bl, Option.bind_some, intsD_ints, blsD_bls, atI_0, atI_1, atI_lit, atI_natC, ixN_0, ixN_1, ixN_nat, List.map_cons, List.map_nil, List.length_cons, List.length_nil, List.length_map, List.cons_append, List.nil_append, List.replicate, List.getElem?_cons_zero, List.getElem?_cons_succ, List.set_cons_zero, List.set_cons_succ, List.length_set, Option.isSome_some, Nat.sub_self, Nat.reduceAdd, Nat.reduceSub, Nat.reduceLT, if_true, if_false, ite_true, ite_false, reduceIte, Bool.false_eq_true, decide_eq_true_eq, Bool.not_true, Bool.not_false, Nat.zero_add, true_and, and_true, false_and, and_false, and_self, Bool.xor_false, Bool.false_xor, Bool.true_xor, Bool.xor_true, get_app, get_app0, set_app, set_app0, List.append_assoc, List.length_append, le_0, le_1, le_2, le_3, le_4, le_5, le_6, le_7, le_8, Bool.not_eq_true', decide_eq_false_iff_not, fin_same] $[$loc]?)
structure ItmOk (n : Nat) (i : Itm) : Prop where
  nm : i.nm.length ≤ 20
  few : i.ps.length ≤ 4
  ps : ∀ p ∈ i.ps, p.1 < n ∧ 1 ≤ p.2 ∧ p.2 ≤ 20
  lead : 0 ≤ i.lead ∧ i.lead ≤ 10
  lot : 1 ≤ i.lot ∧ i.lot ≤ 50
  good : 1 ≤ i.good ∧ i.good ≤ i.lot
structure BillOk (n : Nat) (b : List Itm) : Prop where
  some_ : 1 ≤ b.length
  most : b.length ≤ n
  itm : ∀ i ∈ b, ItmOk b.length i
  rank : ∃ r : Nat → Nat, ∀ (k : Nat) (i : Itm), b[k]? = some i → ∀ p ∈ i.ps, r p.1 < r k
theorem wE_draw {ds : List Int} {a : Nat} {m : Int} {G : GS} {E : EK} {Q : D → GS → Prop} (h : 0 < m) : wE (F__law_draw [.ref 0, .int m] (box ds a :: G)) E Q = Q (.int (drawV ds a m)) (box ds (a + 1) :: G) := by
  rw [draw_eq h]; rfl
theorem nr_box (ds : List Int) (a : Nat) : nrO (box ds a) = true := by simp [nrO, box, nrDs, nrD, nrDs_intl]
def LT : List Nat := lit "abcdefghijklmnopqrstuvwxyz"
def NmA (s : List Nat) : Prop := 1 ≤ s.length ∧ s.length ≤ 12 ∧ ∀ c ∈ s, c ∈ LT
theorem NmA.le {s : List Nat} (h : NmA s) : s.length ≤ 20 := by have := h.2.1; omega
def NmB (s : List Nat) : Bool := decide (1 ≤ s.length) && decide (s.length ≤ 12) && s.all fun c => decide (c ∈ LT)
theorem NmB_iff {s : List Nat} : NmB s = true ↔ NmA s := by unfold NmB NmA; simp [and_assoc]
theorem nodup_leL : ∀ (l m : List (List Nat)), l.Nodup → (∀ x ∈ l, x ∈ m) → l.length ≤ m.length
  | [], m, _, _ => Nat.zero_le _
  | a :: l, m, hn, h => by
    rw [List.nodup_cons] at hn
    have ha := h a List.mem_cons_self
    have ih := nodup_leL l (m.erase a) hn.2 fun x hx => (List.mem_erase_of_ne (fun e => hn.1 (by rw [← e]; exact hx))).mpr (h x (List.mem_cons_of_mem _ hx))
    rw [List.length_erase_of_mem ha] at ih
    have : 0 < m.length := List.length_pos_of_mem ha
    rw [List.length_cons]
    omega
def abc : List Nat := lit "abcdefghi"
theorem abc_len : abc.length = 9 := by decide +kernel
theorem abc_inj : ∀ i j : Fin 9, abc[i.1]? = abc[j.1]? → i = j := by decide +kernel
theorem abc_lt : ∀ c ∈ abc, c ∈ LT := by decide +kernel
/-- a name is new, or all that were tried are taken -/
def TryOk (names : List (List Nat)) (i : Nat) (s : List Nat) : Prop := s ∉ names ∨ ∃ seen : List (List Nat), seen.length = i ∧ seen.Nodup ∧ ∀ u ∈ seen, u ∈ names ∧ ∃ m, m < i ∧ ∃ c, abc[m]? = some c ∧ u.getLast? = some c
theorem TryOk.next {names : List (List Nat)} {i : Nat} {s : List Nat} {c : Nat} (h : TryOk names i s) (hs : s ∈ names) (hc : abc[i]? = some c) : TryOk names (i + 1) (s.take 11 ++ [c]) := by
  rcases h with h | ⟨seen, h1, h2, h3⟩
  · exact absurd hs h
  · by_cases hn : s.take 11 ++ [c] ∈ names
    · refine .inr ⟨seen ++ [s.take 11 ++ [c]], by simp [h1], ?_, fun u hu => ?_⟩
      · rw [List.nodup_append]
        refine ⟨h2, by simp, fun a ha b hb e => ?_⟩
        rw [List.mem_singleton.mp hb] at e
        obtain ⟨_, m, hm, c', hc', hl⟩ := h3 a ha
        rw [e, List.getLast?_concat] at hl
        cases hl
        have i1 := (List.getElem?_eq_some_iff.mp hc').1
        have i2 := (List.getElem?_eq_some_iff.mp hc).1
        rw [abc_len] at i1 i2
        have := abc_inj ⟨m, i1⟩ ⟨i, i2⟩ (by rw [hc', hc])
        have : m = i := congrArg Fin.val this
        omega
      · rcases List.mem_append.mp hu with hu | hu
        · obtain ⟨a1, m, hm, r⟩ := h3 u hu
          exact ⟨a1, m, by omega, r⟩
        · rw [List.mem_singleton.mp hu]
          exact ⟨hn, i, by omega, c, hc, List.getLast?_concat⟩
    · exact .inl hn
theorem TryOk.stay {names : List (List Nat)} {i : Nat} {s : List Nat} (hs : s ∉ names) : TryOk names (i + 1) s := .inl hs
theorem TryOk.fin {names : List (List Nat)} {s : List Nat} (hl : names.length ≤ 8) (h : TryOk names 9 s) : s ∉ names := by
  rcases h with h | ⟨seen, h1, h2, h3⟩
  · exact h
  · have := nodup_leL seen names h2 fun x hx => (h3 x hx).1
    omega
theorem NmA.put {s : List Nat} {c : Nat} (h : NmA s) (hc : c ∈ abc) : NmA (s.take 11 ++ [c]) := by
  refine ⟨by simp, by have := List.length_take_le 11 s; simp; omega, fun x hx => ?_⟩
  rcases List.mem_append.mp hx with hx | hx
  · exact h.2.2 x (List.mem_of_mem_take hx)
  · rw [List.mem_singleton.mp hx]; exact abc_lt c hc
theorem name_wp {ds : List Int} {a n : Nat} {names : List (List Nat)} {G : GS} (hn : G[n]? = some (.lst (names.map D.str))) (hnl : names.length ≤ 8) :
    wE (F__law_name [.ref 0, .ref (n + 1)] (box ds a :: G)) never fun d G' => ∃ (s : List Nat) (a' : Nat), d = .str s ∧ (NmA s ∧ s ∉ names) ∧ G' = box ds a' :: G := by
  simp only [ZWP, F__law_name, wE_fun, B__law_name, S__law_name_1]
  simp only [ZWP, wE_draw (m := 8) (by decide)]
  have r8 := draw_range ds a (m := 8) (by decide)
  refine wp_pick r8.1 (by simpa using r8.2) fun d hd => ?_
  obtain ⟨s, rfl, hs⟩ : ∃ s, d = .str s ∧ NmA s := by
    simp only [List.mem_cons, List.not_mem_nil, or_false] at hd
    rcases hd with rfl | rfl | rfl | rfl | rfl | rfl | rfl | rfl <;> exact ⟨_, rfl, NmB_iff.mp (by decide +kernel)⟩
  simp only [ZWP]
  refine wS_cut (fun σ G' => ∃ (s : List Nat) (a' : Nat), σ = [some (.ref 0), some (.ref (n + 1)), some (.str s), none] ∧ G' = box ds a' :: G ∧ NmA s) ?_ ?_
  · simp only [ZWP, S__law_name_1, C__law_name_2, S__law_name_3, S__law_name_2, C__law_name_5, S__law_name_6, S__law_name_5, L__law_name_4, S__law_name_4, S__law_name_7]
    simp only [ZWP, wE_draw (m := 2) (by decide)]
    split
    · have r2 := draw_range ds (a + 1 + 1) (m := 2) (by decide)
      refine wp_pick r2.1 (by simpa using r2.2) fun d hd => ?_
      obtain ⟨m, rfl, hm⟩ : ∃ m : Nat, d = .int m ∧ 1 ≤ m ∧ m ≤ 9 := by
        simp only [List.mem_cons, List.not_mem_nil, or_false] at hd
        rcases hd with rfl | rfl
        · exact ⟨3, rfl, by decide⟩
        · exact ⟨9, rfl, by decide⟩
      have rm := draw_range ds (a + 1 + 1 + 1) (m := (m : Int)) (by omega)
      simp only [ZWP, wE_draw (m := (m : Int)) (by omega)]
      obtain ⟨q, hq⟩ : ∃ q : Nat, 1 + drawV ds (a + 1 + 1 + 1) m = (q : Int) := ⟨(1 + drawV ds (a + 1 + 1 + 1) m).toNat, by omega⟩
      rw [hq]
      obtain ⟨t, et, ht, htc⟩ := run_eq (ds := ds) (a := a + 1 + 1 + 1 + 1) (n := q) (cs := lit "abcdefghijklmnopqrstuvwxyz") (G := G) (by omega) (by decide) (by decide)
      refine wE_eq et ?_
      try simp only [ZWP]
      exact ⟨t, _, rfl, rfl, by omega, by omega, htc⟩
    · exact ⟨s, _, rfl, rfl, hs⟩
  · rintro σ G' ⟨s, a', rfl, rfl, hs⟩
    simp only [ZWP, S__law_name_1, C__law_name_2, S__law_name_3, S__law_name_2, C__law_name_5, S__law_name_6, S__law_name_5, L__law_name_4, S__law_name_4, S__law_name_7]
    rw [show rng1 [.int 9] (box ds a' :: G) = .ok (rngD 0 9) (box ds a' :: G) from rng1_nat (n := 9) (by decide)]
    simp only [ZWP]
    refine wp_rng (fun i σ G' => ∃ (s : List Nat) (o : Option D), σ = [some (.ref 0), some (.ref (n + 1)), some (.str s), o] ∧ G' = box ds a' :: G ∧ (NmA s ∧ TryOk names i s)) ⟨s, _, rfl, rfl, hs, .inr ⟨[], rfl, List.nodup_nil, fun u hu => by cases hu⟩⟩ ?_ ?_
    · rintro j σ G' hj ⟨s, o, rfl, rfl, hs, htr⟩
      have hc : (box ds a' :: G)[n + 1]? = some (.lst (names.map D.str)) := hn
      have hl : (lit "abcdefghi").length ≤ maxLine := by decide
      obtain ⟨c, hx⟩ : ∃ c, (lit "abcdefghi")[j]? = some c := ⟨_, List.getElem?_eq_getElem (by exact hj)⟩
      simp only [ZWP, S__law_name_1, C__law_name_2, S__law_name_3, S__law_name_2, C__law_name_5, S__law_name_6, S__law_name_5, L__law_name_4, S__law_name_4, S__law_name_7, cInA_strs hc]
      split
      · rename_i hin
        rw [ixS_get hx]
        simp only [ZWP, cut_lit]
        have : (s.take 11).length ≤ 11 := List.length_take_le _ _
        exact ⟨len_le hs.le (by decide), hl, by unfold maxLine; omega, _, _, rfl, hs.put (List.mem_of_getElem? hx), htr.next (by simpa using hin) hx⟩
      · rename_i hin
        exact ⟨s, _, rfl, hs, TryOk.stay (by simpa using hin)⟩
    · rintro σ G' ⟨s, o, rfl, rfl, hs, htr⟩
      simp only [wE_srtS, wS_match, wS_mnil, wE_notA, wE_newT, wE_key, keyR_2, wE_getT2, wS_setT, setT_R, setTR_dct, bIxK_R, ixTR_dct, bIxK_int, bxA_key, wE_lr2, wE_aStar, seqW_some, wE_zp, zipR_tup, Bool.true_eq_false, Int.natCast_inj, wE_ok, wE_exc, wE_bad, wE_if, wE_ite, if_F, wE_bind, wS_nil, wS_seq, wS_asg, wS_exp, wS_ret, wS_retN, wS_brk, wS_cont, wS_if, wS_aug, wS_asgG, asgW_some, wS_setI, wS_setIA, wS_fldD, wS_raise, wS_par, wS_parR, wS_for, wS_forA, forA_lst, forA_tup, forA_str, getW_some, wE_var, wE_cst, wE_bin, wE_un, wE_andV, wE_orV, wE_notV, wE_ifx, wE_call, wE_app, wE_appK, wE_tup, wE_lst, wE_new, wE_newD, wE_mt, wE_rem, wE_get2, wE_sl, wE_oNone, intW_int, wE_oSome, wE_aNil, wE_aCons, blW_bl, wE_chain, wE_dT, wE_dTA, wE_truth, wE_dAnd, wE_dOr, wE_dNot, wE_dYes, wE_rg1, wE_rg2, wE_iSA, seqA_lst, seqA_tup, wE_en, enumR_lst, wE_enA, enumA_lst, enumA_tup, wE_rvD, revD_tup, revD_lst, wE_dcN, wE_lr1, gN, gT, gsCons, gsNil, CG.d, setsD, wipeD, isLst, isStr, seqOf, lstOf, setIA_R, setR_lst, setR_dic, setL_nat, setK_int, wS_iff, bxA_lst, bxA_tup, bxA_str, bIxA_dic, bIxA_refR, ixR_lst, ixR_dic, ixL_nat, ixL_lit, ixL_0, ixL_1, ixO_some, bAdd, bSub, bNeg, bIadd, bSl_str, bSl_tup, bSl_lst, cLt, cLe, cGt, cGe, cIsN, fLen_lst, fLen_tup, fLen_scr, fLen_str, fLen_ref, lenR_lst, fMax, fMin, fAbs, fInt, fStr, fTuple, fList, fAny, fAll, lstBls, fSum, lstInts, mAppend, truthA, truV, cEq_int, cEq_str, cEq_bl, Option.bind_some, intsD_ints, blsD_bls, atI_0, atI_1, atI_lit, atI_natC, ixN_0, ixN_1, ixN_nat, List.map_cons, List.map_nil, List.length_cons, List.length_nil, List.length_map, List.cons_append, List.nil_append, List.replicate, List.getElem?_cons_zero, List.getElem?_cons_succ, List.set_cons_zero, List.set_cons_succ, List.length_set, Option.isSome_some, Nat.sub_self, Nat.reduceAdd, Nat.reduceSub, Nat.reduceLT, if_true, if_false, ite_true, ite_false, reduceIte, Bool.false_eq_true, decide_eq_true_eq, Bool.not_true, Bool.not_false, Nat.zero_add, true_and, and_true, false_and, and_false, and_self, Bool.xor_false, Bool.false_xor, Bool.true_xor, Bool.xor_true, get_app, get_app0, set_app, set_app0, List.append_assoc, List.length_append, le_0, le_1, le_2, le_3, le_4, le_5, le_6, le_7, le_8, Bool.not_eq_true', decide_eq_false_iff_not, fin_same, S__law_name_7]
      exact ⟨s, _, rfl, ⟨hs, htr.fin hnl⟩, rfl⟩
abbrev noP (I : PEnv → GS → Prop) : Po := ⟨I, fun _ _ => False, fun _ _ => False, fun _ _ => False, fun _ _ _ _ => False⟩
theorem wE_cut {α : Type} {r : RE α} {E : EK} {Q : α → GS → Prop} (I : α → GS → Prop) (h : wE r never I) (k : ∀ a G, I a G → Q a G) : wE r E Q := wE_use h k
def bFr (m c : Int) (n : Nat) (k ranks at_ items below parts turn q lead lot : Option D) : PEnv :=
  [some (.ref 0), some (.int m), some (.int c), some (.ref (n + 1)), k, ranks, at_, items, below, parts, turn, q, lead, lot]
theorem bill_names {ds : List Int} {a c : Nat} {m : Int} {T : GS} (hc : c ≤ 8) : wS (S__law_bill_3 (bFr m c T.length none none none none none none none none none none) (box ds a :: (T ++ [.lst []])))
    (noP fun σ G => ∃ (names : List (List Nat)) (a' : Nat) (o : Option D), σ = bFr m c T.length o none none none none none none none none none ∧ G = box ds a' :: (T ++ [.lst (names.map D.str)]) ∧ names.length = c ∧ ((∀ s ∈ names, NmA s) ∧ names.Nodup)) := by
  unfold bFr
  simp only [ZWP, S__law_bill_3]
  rw [rng1_nat (n := c) (by omega)]
  simp only [ZWP]
  refine wp_rng (fun i σ G => ∃ (names : List (List Nat)) (a' : Nat) (o : Option D), σ = bFr m c T.length o none none none none none none none none none ∧ G = box ds a' :: (T ++ [.lst (names.map D.str)]) ∧ names.length = i ∧ ((∀ s ∈ names, NmA s) ∧ names.Nodup)) ⟨[], a, none, rfl, rfl, rfl, fun s h => by simp at h, List.nodup_nil⟩ ?_ ?_
  · rintro j σ G hj ⟨names, a', o, rfl, rfl, hl, hn, hnd⟩
    unfold bFr
    simp only [ZWP, S__law_bill_1, S__law_bill_2, S__law_bill_4, L__law_bill_3, S__law_bill_3, S__law_bill_5, S__law_bill_7, S__law_bill_8, L__law_bill_6, S__law_bill_6, S__law_bill_9, S__law_bill_11, S__law_bill_12, C__law_bill_14, S__law_bill_15, C__law_bill_16, S__law_bill_17, S__law_bill_16, S__law_bill_18, S__law_bill_14, L__law_bill_13, S__law_bill_13, S__law_bill_19, S__law_bill_20, S__law_bill_21, L__law_bill_10, S__law_bill_10, S__law_bill_22]
    have hw := name_wp (ds := ds) (a := a') (n := T.length) (names := names) (G := T ++ [.lst (names.map D.str)]) (by simp) (by omega)
    refine wE_cut _ hw ?_
    rintro d G' ⟨s, a2, rfl, ⟨hs, hsn⟩, rfl⟩
    simp only [ZWP]
    refine ⟨lt_line (by omega), names ++ [s], a2, some (.int j), rfl, ?_, by simp [hl], fun u hu => ?_, by rw [List.nodup_append]; exact ⟨hnd, by simp, fun x hx y hy e => hsn (by rw [List.mem_singleton.mp hy] at e; rw [← e]; exact hx)⟩⟩
    · simp
    · rcases List.mem_append.mp hu with hu | hu
      · exact hn u hu
      · rw [List.mem_singleton.mp hu]; exact hs
  · rintro σ G ⟨names, a', o, rfl, rfl, hl, hn⟩
    exact ⟨names, a', o, rfl, rfl, hl, hn⟩
structure RankOk (i : Nat) (r : List Int) : Prop where
  len : r.length = i
  all : ∀ k : Nat, k < i → (k : Int) ∈ r
  bd : ∀ x ∈ r, 0 ≤ x ∧ x < i
theorem bill_ranks {ds : List Int} {a c : Nat} {m : Int} {n : Nat} {R : GS} {o : Option D} (hc : c ≤ 8) : wS (S__law_bill_6 (bFr m c n o (some (.lst [])) none none none none none none none none) (box ds a :: R))
    (noP fun σ G => ∃ (r : List Int) (a' : Nat) (o o2 : Option D), σ = bFr m c n o (some (.lst (r.map D.int))) o2 none none none none none none none ∧ G = box ds a' :: R ∧ RankOk c r) := by
  unfold bFr
  simp only [ZWP, S__law_bill_6]
  rw [rng1_nat (n := c) (by omega)]
  simp only [ZWP]
  refine wp_rng (fun i σ G => ∃ (r : List Int) (a' : Nat) (o o2 : Option D), σ = bFr m c n o (some (.lst (r.map D.int))) o2 none none none none none none none ∧ G = box ds a' :: R ∧ RankOk i r) ⟨[], a, o, none, rfl, rfl, rfl, fun k h => absurd h (Nat.not_lt_zero _), fun x h => by simp at h⟩ ?_ ?_
  · rintro j σ G hj ⟨r, a', o, o2, rfl, rfl, hr⟩
    unfold bFr
    have hl := hr.len
    have rg := draw_range ds a' (m := (r.length : Int) + 1) (by omega)
    obtain ⟨q, hq⟩ : ∃ q : Nat, drawV ds a' ((r.length : Int) + 1) = (q : Int) := ⟨(drawV ds a' ((r.length : Int) + 1)).toNat, by omega⟩
    simp only [ZWP, L__law_bill_6, S__law_bill_7, S__law_bill_8, wE_draw (m := (r.length : Int) + 1) (by omega)]
    rw [hq]
    simp only [ZWP, cut_to, cut_from, ← List.map_take, ← List.map_drop]
    refine ⟨len_le (m := 20) (by have := List.length_take_le q r; simp; omega) (by decide), len_le (m := 40) (by have := List.length_take_le q r; have := List.length_drop (l := r) (i := q); simp; omega) (by decide), r.take q ++ [(j : Int)] ++ r.drop q, a' + 1, some (.int j), some (.int q), ?_, rfl, ?_, ?_, ?_⟩
    · simp [bFr]
    · simp only [List.length_append, List.length_take, List.length_drop, List.length_singleton]; omega
    · intro k hk
      simp only [List.mem_append, List.mem_singleton]
      by_cases e : k = j
      · left; right; rw [e]
      · have := hr.all k (by omega)
        rw [← List.take_append_drop q r, List.mem_append] at this
        rcases this with h | h
        · exact .inl (.inl h)
        · exact .inr h
    · intro x hx
      simp only [List.mem_append, List.mem_singleton] at hx
      rcases hx with (hx | hx) | hx
      · have := hr.bd x (List.mem_of_mem_take hx); omega
      · omega
      · have := hr.bd x (List.mem_of_mem_drop hx); omega
  · rintro σ G ⟨r, a', o, o2, rfl, rfl, hr⟩
    exact ⟨r, a', o, o2, rfl, rfl, hr⟩
/-- the parts of the item k, from those below it -/
structure PartsOk (below : List Int) (i : Nat) (ps : List (Nat × Int)) : Prop where
  few : ps.length ≤ i
  all : ∀ p ∈ ps, (p.1 : Int) ∈ below ∧ 1 ≤ p.2 ∧ p.2 ≤ 20
theorem bill_parts {ds : List Int} {a n : Nat} {m c : Int} {T A : GS} {o1 o2 o3 o4 o5 o6 o7 o8 : Option D} {below : List Int} (hb : ∀ x ∈ below, 0 ≤ x) (hl : below.length ≤ 8) :
    wS (S__law_bill_13 (bFr m c n o1 o2 o3 o4 (some (.lst (below.map D.int))) (some (.ref (A.length + 1))) o5 o6 o7 o8) (box ds a :: (A ++ [.lst []])))
    (noP fun σ G => ∃ (ps : List (Nat × Int)) (a' : Nat) (o5 o6 : Option D), σ = bFr m c n o1 o2 o3 o4 (some (.lst (below.map D.int))) (some (.ref (A.length + 1))) o5 o6 o7 o8 ∧ G = box ds a' :: (A ++ [.lst (ps.map prD)]) ∧ PartsOk below 4 ps) := by
  unfold bFr
  have r5 := draw_range ds a (m := 5) (by decide)
  obtain ⟨w, hw⟩ : ∃ w : Nat, drawV ds a 5 = (w : Int) := ⟨(drawV ds a 5).toNat, by omega⟩
  simp only [ZWP, S__law_bill_13, wE_draw (m := 5) (by decide)]
  rw [hw, rng1_nat (n := w) (by omega)]
  simp only [ZWP]
  refine wp_rng (fun i σ G => ∃ (ps : List (Nat × Int)) (a' : Nat) (o5 o6 : Option D), σ = bFr m c n o1 o2 o3 o4 (some (.lst (below.map D.int))) (some (.ref (A.length + 1))) o5 o6 o7 o8 ∧ G = box ds a' :: (A ++ [.lst (ps.map prD)]) ∧ PartsOk below i ps) ⟨[], a + 1, o5, o6, rfl, rfl, by simp, fun p h => by simp at h⟩ ?_ ?_
  · rintro j σ G hj ⟨ps, a', o5, o6, rfl, rfl, hp⟩
    unfold bFr
    have hpl := hp.few
    simp only [ZWP, L__law_bill_13, S__law_bill_14, C__law_bill_14]
    split
    · rename_i hpos
      have rb := draw_range ds (a' + 1 + 1) (m := (below.length : Int)) hpos
      have r3 := draw_range ds a' (m := 3) (by decide)
      simp only [ZWP, S__law_bill_15, S__law_bill_16, C__law_bill_16, S__law_bill_17, wE_draw (m := 3) (by decide), wE_draw (m := 9) (by decide)]
      have fin : ∀ q : Int, 1 ≤ q → q ≤ 20 → wS (S__law_bill_18 [some (.ref 0), some (.int m), some (.int c), some (.ref (n + 1)), o1, o2, o3, o4, some (.lst (below.map D.int)), some (.ref (A.length + 1)), some (.int j), some (.int q), o7, o8] (box ds (a' + 1 + 1) :: (A ++ [.lst (ps.map prD)])))
          (noP fun σ G => ∃ (ps : List (Nat × Int)) (a' : Nat) (o5 o6 : Option D), σ = bFr m c n o1 o2 o3 o4 (some (.lst (below.map D.int))) (some (.ref (A.length + 1))) o5 o6 o7 o8 ∧ G = box ds a' :: (A ++ [.lst (ps.map prD)]) ∧ PartsOk below (j + 1) ps) := by
        intro q h1 h2
        simp only [ZWP, S__law_bill_18, wE_draw (m := (below.length : Int)) hpos]
        refine wp_pick rb.1 (by simpa using rb.2) fun d hd => ?_
        obtain ⟨x, hx, rfl⟩ := List.mem_map.mp hd
        have h0 := hb x hx
        simp only [ZWP]
        refine ⟨lt_line (by omega), ps ++ [(x.toNat, q)], a' + 1 + 1 + 1, some (.int j), some (.int q), rfl, ?_, by simp; omega, fun p hp' => ?_⟩
        · simp [prD, Int.toNat_of_nonneg h0]
        · rcases List.mem_append.mp hp' with h | h
          · exact hp.all p h
          · rw [List.mem_singleton.mp h]
            exact ⟨by simpa [Int.toNat_of_nonneg h0] using hx, h1, h2⟩
      split
      · exact wS_cut _ (fin 20 (by decide) (by decide)) fun _ _ h => h
      · exact wS_cut _ (fin (1 + drawV ds a' 3) (by omega) (by omega)) fun _ _ h => h
    · exact ⟨ps, a', some (.int j), o6, rfl, rfl, by omega, hp.all⟩
  · rintro σ G ⟨ps, a', o5, o6, rfl, rfl, hp⟩
    exact ⟨ps, a', o5, o6, rfl, rfl, by have := hp.few; omega, hp.all⟩
theorem idx_le {α : Type} [BEq α] [LawfulBEq α] {l : List α} {x : α} {n : Nat} (h : x ∈ l.take n) : l.idxOf x < n := by
  have h1 : (l.take n).idxOf x < (l.take n).length := List.idxOf_lt_length_iff.mpr h
  have h2 : l.idxOf x = (l.take n).idxOf x := by
    conv => lhs; rw [← List.take_append_drop n l]
    rw [List.idxOf_append, if_pos h]
  have := List.length_take_le n l
  omega
structure ItmsOk (c i : Nat) (r : List Int) (its : List Itm) : Prop where
  len : its.length = i
  ok : ∀ x ∈ its, ItmOk c x
  rank : ∀ (k : Nat) (x : Itm), its[k]? = some x → ∀ p ∈ x.ps, r.idxOf (p.1 : Int) < r.idxOf (k : Int)
theorem bill_item {ds : List Int} {a c k : Nat} {m : Int} {T t : GS} {names : List (List Nat)} {r : List Int} {its : List Itm} {o1 o2 o3 o4 o5 o6 o7 o8 : Option D} (hc : c ≤ 8) (hk : k < c) (hn : names.length = c) (hn2 : ∀ s ∈ names, NmA s) (hr : RankOk c r) (hi : ItmsOk c k r its) (hin : its.map Itm.nm = names.take k) :
    wS (L__law_bill_10 (bFr m c T.length (some (.int k)) (some (.lst (r.map D.int))) o2 (some (.ref (T.length + 1 + 1))) o3 o4 o5 o6 o7 o8) (box ds a :: (T ++ .lst (names.map D.str) :: .lst (its.map Itm.d) :: t)))
    (noP fun σ G => ∃ (its : List Itm) (a' : Nat) (o2 o3 o4 o5 o6 o7 o8 : Option D) (t : GS), σ = bFr m c T.length (some (.int k)) (some (.lst (r.map D.int))) o2 (some (.ref (T.length + 1 + 1))) o3 o4 o5 o6 o7 o8 ∧ G = box ds a' :: (T ++ .lst (names.map D.str) :: .lst (its.map Itm.d) :: t) ∧ (ItmsOk c (k + 1) r its ∧ its.map Itm.nm = names.take (k + 1))) := by
  have hkr := hr.all k hk
  have hrl := hr.len
  have hil := hi.len
  unfold bFr
  simp only [ZWP, L__law_bill_10, S__law_bill_11, S__law_bill_12, mIndex_ints hkr, cut_to, ← List.map_take]
  have hb : ∀ x ∈ r.take (r.idxOf (k : Int)), 0 ≤ x := fun x hx => (hr.bd x (List.mem_of_mem_take hx)).1
  have hbl : (r.take (r.idxOf (k : Int))).length ≤ 8 := by rw [List.length_take]; omega
  have hp := bill_parts (ds := ds) (a := a) (n := T.length) (m := m) (c := c) (T := T) (A := T ++ .lst (names.map D.str) :: .lst (its.map Itm.d) :: t) (o1 := some (.int k)) (o2 := some (.lst (r.map D.int))) (o3 := o2) (o4 := some (.ref (T.length + 1 + 1))) (o5 := o5) (o6 := o6) (o7 := o7) (o8 := o8) hb hbl
  unfold bFr at hp
  simp only [List.append_assoc, List.cons_append, List.length_append, List.length_cons] at hp
  refine wS_cut _ hp ?_
  rintro σ G ⟨ps, a', o5', o6', rfl, rfl, hps⟩
  have q1 := draw_range ds a' (m := 5) (by decide)
  have q2 := draw_range ds (a' + 1) (m := 11) (by decide)
  have q3 := draw_range ds (a' + 1 + 1) (m := 5) (by decide)
  have q4 := draw_range ds (a' + 1 + 1 + 1) (m := 6) (by decide)
  have q5 := draw_range ds (a' + 1 + 1 + 1 + 1) (m := 50) (by decide)
  have q6 := draw_range ds (a' + 1 + 1 + 1 + 1 + 1) (m := 5) (by decide)
  simp only [ZWP, S__law_bill_19, S__law_bill_20, wE_draw (m := 5) (by decide), wE_draw (m := 11) (by decide), wE_draw (m := 6) (by decide), wE_draw (m := 50) (by decide), fdivL _ 4 (by decide)]
  refine wp_pick (by omega) (by simp; omega) fun dl hdl => ?_
  obtain ⟨lead, rfl, hlead⟩ : ∃ lead : Int, dl = .int lead ∧ 0 ≤ lead ∧ lead ≤ 10 := by
    simp only [List.mem_cons, List.not_mem_nil, or_false] at hdl
    rcases hdl with rfl | rfl
    · exact ⟨_, rfl, by omega, by omega⟩
    · exact ⟨_, rfl, by omega, by omega⟩
  simp only [ZWP, S__law_bill_19, S__law_bill_20, wE_draw (m := 5) (by decide), wE_draw (m := 11) (by decide), wE_draw (m := 6) (by decide), wE_draw (m := 50) (by decide), fdivL _ 4 (by decide)]
  refine wp_pick (by omega) (by simp; omega) fun dl hdl => ?_
  obtain ⟨lot, rfl, hlot⟩ : ∃ lead : Int, dl = .int lead ∧ 1 ≤ lead ∧ lead ≤ 50 := by
    simp only [List.mem_cons, List.not_mem_nil, or_false] at hdl
    rcases hdl with rfl | rfl
    · exact ⟨_, rfl, by omega, by omega⟩
    · exact ⟨_, rfl, by omega, by omega⟩
  have q7 := draw_range ds (a' + 1 + 1 + 1 + 1 + 1 + 1) (m := lot) (by omega)
  have hnk : (names.map D.str)[k]? = some (.str (names[k]'(by omega))) := by rw [List.getElem?_map, List.getElem?_eq_getElem (by omega)]; rfl
  simp only [ZWP, S__law_bill_21, hnk, wE_draw (m := lot) (by omega)]
  refine ⟨lt_line (by omega), its ++ [⟨names[k]'(by omega), ps, lead, lot, 1 + drawV ds (a' + 1 + 1 + 1 + 1 + 1 + 1) lot⟩], a' + 1 + 1 + 1 + 1 + 1 + 1 + 1, _, _, _, _, _, _, _, t ++ [.lst (ps.map prD)], rfl, ?_, ?_⟩
  · simp [Itm.d]
  · refine ⟨⟨by simp [hil], fun x hx => ?_, fun k' x hx p hp => ?_⟩, by rw [List.map_append, hin, List.take_succ, List.getElem?_eq_getElem (by omega)]; rfl⟩
    · rcases List.mem_append.mp hx with hx | hx
      · exact hi.ok x hx
      · rw [List.mem_singleton.mp hx]
        refine ⟨(hn2 _ (List.getElem_mem _)).le, hps.few, fun p hp => ?_, hlead, hlot, by show 1 ≤ 1 + _; omega, by show 1 + _ ≤ lot; omega⟩
        have := hps.all p hp
        have h2 := hr.bd _ (List.mem_of_mem_take this.1)
        exact ⟨by omega, this.2⟩
    · by_cases e : k' < its.length
      · rw [List.getElem?_append_left e] at hx
        exact hi.rank k' x hx p hp
      · have e1 : k' < (its ++ [(⟨names[k]'(by omega), ps, lead, lot, 1 + drawV ds (a' + 1 + 1 + 1 + 1 + 1 + 1) lot⟩ : Itm)]).length := (List.getElem?_eq_some_iff.mp hx).1
        have e2 : k' = its.length := by simp at e1; omega
        subst e2
        rw [List.getElem?_append_right (Nat.le_refl _)] at hx
        simp at hx
        subst hx
        have := hps.all p hp
        rw [hil]
        exact idx_le this.1
theorem bill_wp {ds : List Int} {a m : Nat} {T : GS} (hm : 1 ≤ m) (hm2 : m ≤ 8) (hT : nrG T = true) :
    wE (F__law_bill [.ref 0, .int m] (box ds a :: T)) never fun d G' => ∃ (b : List Itm) (a' : Nat), d = billD b ∧ (BillOk m b ∧ ((∀ x ∈ b, NmA x.nm) ∧ (b.map Itm.nm).Nodup)) ∧ G' = box ds a' :: T := by
  simp only [ZWP, F__law_bill, wE_fun, B__law_bill, S__law_bill_1, S__law_bill_2, wE_draw (m := (m : Int)) (by omega)]
  have rm := draw_range ds a (m := (m : Int)) (by omega)
  obtain ⟨c, hc⟩ : ∃ c : Nat, 1 + drawV ds a m = (c : Int) := ⟨(1 + drawV ds a m).toNat, by omega⟩
  rw [hc]
  have h1 := bill_names (ds := ds) (a := a + 1) (c := c) (m := m) (T := T) (by omega)
  unfold bFr at h1
  refine wS_cut _ h1 ?_
  rintro σ G ⟨names, a1, o, rfl, rfl, hn, hn2, hnd⟩
  simp only [ZWP, S__law_bill_5]
  have h2 := bill_ranks (ds := ds) (a := a1) (c := c) (m := m) (n := T.length) (R := T ++ [.lst (names.map D.str)]) (o := o) (by omega)
  unfold bFr at h2
  refine wS_cut _ h2 ?_
  rintro σ G ⟨r, a2, o1, o2, rfl, rfl, hr⟩
  simp only [ZWP, S__law_bill_9, S__law_bill_10]
  rw [rng1_nat (n := c) (by omega)]
  simp only [ZWP]
  refine wp_rng (fun i σ G => ∃ (its : List Itm) (a' : Nat) (o1 o2 o3 o4 o5 o6 o7 o8 : Option D) (t : GS), σ = bFr m c T.length o1 (some (.lst (r.map D.int))) o2 (some (.ref (T.length + 1 + 1))) o3 o4 o5 o6 o7 o8 ∧ G = box ds a' :: (T ++ .lst (names.map D.str) :: .lst (its.map Itm.d) :: t) ∧ (ItmsOk c i r its ∧ its.map Itm.nm = names.take i)) ⟨[], a2, o1, o2, none, none, none, none, none, none, [], rfl, rfl, ⟨rfl, fun x h => by simp at h, fun k x h => by simp at h⟩, rfl⟩ ?_ ?_
  · rintro j σ G hj ⟨its, a', o1, o2, o3, o4, o5, o6, o7, o8, t, rfl, rfl, hi, hin⟩
    unfold bFr
    simp only [ZWP]
    have h3 := bill_item (ds := ds) (a := a') (c := c) (k := j) (m := m) (T := T) (t := t) (names := names) (r := r) (its := its) (o1 := o1) (o2 := o2) (o3 := o3) (o4 := o4) (o5 := o5) (o6 := o6) (o7 := o7) (o8 := o8) (by omega) hj hn hn2 hr hi hin
    unfold bFr at h3
    refine wS_cut _ h3 ?_
    rintro σ G ⟨its, a', o2, o3, o4, o5, o6, o7, o8, t, rfl, rfl, hi, hin⟩
    exact ⟨its, a', _, o2, o3, o4, o5, o6, o7, o8, t, rfl, rfl, hi, hin⟩
  · rintro σ G ⟨its, a', o1, o2, o3, o4, o5, o6, o7, o8, t, rfl, rfl, hi, hin⟩
    unfold bFr
    have hlen := hi.len
    simp only [ZWP, S__law_bill_22]
    have hnr : nrD (.tup (its.map Itm.d)) = true := by
      have : ∀ l : List Itm, nrDs (l.map Itm.d) = true := fun l => by
        rw [nrDs_all]
        intro d hd
        obtain ⟨x, _, rfl⟩ := List.mem_map.mp hd
        have : nrDs (x.ps.map prD) = true := by
          rw [nrDs_all]
          intro d hd
          obtain ⟨p, _, rfl⟩ := List.mem_map.mp hd
          simp [prD, nrD, nrDs]
        simp [Itm.d, nrD, nrDs, this]
      simpa [nrD] using this its
    have hfin := fin_nr (β := D) (G := box ds a :: T) (G2 := box ds a' :: T) (t := .lst (names.map D.str) :: .lst (its.map Itm.d) :: t) (d := .tup (its.map Itm.d)) (k := RE.ok) hnr rfl (by rw [nrG_cons, nr_box, hT]; rfl)
    rw [List.cons_append] at hfin
    rw [hfin]
    simp only [ZWP]
    have hin2 : its.map Itm.nm = names := by rw [hin, List.take_of_length_le (by omega)]
    refine ⟨its, a', rfl, ⟨⟨by omega, by omega, fun i h => by rw [hlen]; exact hi.ok i h, fun k => r.idxOf (k : Int), hi.rank⟩, fun x hx => hn2 _ (by rw [← hin2]; exact List.mem_map.mpr ⟨x, hx, rfl⟩), by rw [hin2]; exact hnd⟩, rfl⟩

/-! ## tokens -/
theorem cInA_one (neg : Bool) (c : Nat) (cs : List Nat) (G : GS) : cInA neg (.str [c]) (.str cs) G = .ok (.bl (xor neg (decide (c ∈ cs)))) G := by
  show cIn neg (.str [c]) (.str cs) G = _
  rw [cIn_one]
def tw (cs l : List Nat) : List Nat := l.takeWhile fun c => decide (c ∈ cs)
def DG : List Nat := lit "0123456789"
theorem tw_take (cs l : List Nat) : l.take (tw cs l).length = tw cs l := by
  unfold tw
  exact (List.prefix_iff_eq_take.mp (List.takeWhile_prefix _)).symm
theorem tw_le (cs l : List Nat) : (tw cs l).length ≤ l.length := (List.takeWhile_prefix _).length_le
theorem tw_cons {cs l : List Nat} {c : Nat} : tw cs (c :: l) = if c ∈ cs then c :: tw cs l else [] := by
  unfold tw
  rw [List.takeWhile_cons]
  by_cases h : c ∈ cs <;> simp [h]
theorem end_eq {line cs : List Nat} {a : Nat} {G : GS} (ha : a ≤ line.length) (hl : line.length < 100000) :
    F_end_of_run [.str line, .int a, .str cs] G = .ok (.int ((a + (tw cs (line.drop a)).length : Nat) : Int)) G := by
  have hll : line.length ≤ maxLine := by unfold maxLine; omega
  refine wE_toEq ?_
  simp only [ZWP, F_end_of_run, wE_fun, B_end_of_run, S_end_of_run_1, S_end_of_run_2]
  refine wp_while (fun m σ G' => G' = G ∧ ∃ e : Nat, σ = [some (.str line), some (.int a), some (.str cs), some (.int (e : Int))] ∧ e ≤ line.length ∧ m = line.length - e ∧ e + (tw cs (line.drop e)).length = a + (tw cs (line.drop a)).length) fuel (line.length - a) _ _ (by unfold fuel; omega) ⟨rfl, a, rfl, ha, rfl, rfl⟩ ?_
  rintro m σ G' ⟨rfl, e, rfl, he, rfl, hw⟩
  simp only [ZWP, W_end_of_run_2, hll]
  by_cases h : e < line.length
  · have eg : line[e]? = some line[e] := List.getElem?_eq_getElem h
    rw [List.drop_eq_getElem_cons h, tw_cons] at hw
    rw [if_pos (by omega)]
    simp only [ZWP, hll, bxA_str, ixS_get eg, cInA_one]
    by_cases hc : line[e] ∈ cs
    · rw [if_pos hc] at hw
      simp only [ZWP, hc, L_end_of_run_2, S_end_of_run_3, decide_true]
      refine ⟨line.length - (e + 1), by omega, e + 1, ?_, h, rfl, by rw [List.length_cons] at hw; omega⟩
      rfl
    · rw [if_neg hc] at hw
      simp only [ZWP, hc, decide_false, S_end_of_run_4]
      rw [← hw]; rfl
  · rw [if_neg (by omega)]
    rw [List.drop_eq_nil_of_le (by omega)] at hw
    simp only [ZWP, S_end_of_run_4]
    rw [← hw]; rfl
def tokAt : List Nat → List Nat
  | [] => []
  | c :: r => if c ∈ LT then tw LT (c :: r) else if c ∈ DG then tw DG (c :: r) else [c]
theorem cut_nat {α : Type} (l : List α) (a b : Nat) (hb : b ≤ l.length) (ha : a ≤ b) : cutL l (some (a : Int)) (some (b : Int)) = (l.drop a).take (b - a) := by
  unfold cutL
  rw [HT.sIx_nat, HT.sIx_nat, Nat.min_eq_left hb, Nat.min_eq_left (by omega)]
theorem string_at_eq {line : List Nat} {a : Nat} {G : GS} (ha : a < line.length) (hl : line.length < 100000) :
    F_string_at [.str line, .int a] G = .ok (.str (tokAt (line.drop a))) G := by
  have hll : line.length ≤ maxLine := by unfold maxLine; omega
  have eg : line[a]? = some line[a] := List.getElem?_eq_getElem ha
  have cut : ∀ cs, cutL line (some (a : Int)) (some ((a + (tw cs (line.drop a)).length : Nat) : Int)) = tw cs (line.drop a) := fun cs => by
    have := tw_le cs (line.drop a)
    rw [List.length_drop] at this
    rw [cut_nat _ _ _ (by omega) (by omega), Nat.add_sub_cancel_left, tw_take]
  have dr := List.drop_eq_getElem_cons ha
  have tA : tokAt (line.drop a) = if line[a] ∈ LT then tw LT (line.drop a) else if line[a] ∈ DG then tw DG (line.drop a) else [line[a]] := by
    rw [dr]; rfl
  rw [tA]
  refine wE_toEq ?_
  have e1 : lit "abcdefghijklmnopqrstuvwxyz" = LT := rfl
  have e2 : lit "0123456789" = DG := rfl
  simp only [ZWP, F_string_at, wE_fun, B_string_at, S_string_at_1, C_string_at_1, hll, bxA_str, ixS_get eg, cInA_one, e1]
  by_cases h1 : line[a] ∈ LT
  · simp only [ZWP, h1, S_string_at_2, e1, end_eq (line := line) (a := a) (Nat.le_of_lt ha) hl, bSl_str, hll, cut, decide_true]
  · simp only [ZWP, h1, S_string_at_3, C_string_at_3, e2, hll, bxA_str, ixS_get eg, cInA_one, decide_false]
    by_cases h2 : line[a] ∈ DG
    · simp only [ZWP, h2, S_string_at_4, e2, end_eq (line := line) (a := a) (Nat.le_of_lt ha) hl, bSl_str, hll, cut, decide_true]
      rw [if_neg h1]
    · simp only [ZWP, h2, S_string_at_5, hll, bxA_str, ixS_get eg, decide_false]
      rw [if_neg h1]
def numM (t : List Nat) : Bool := decide (t.length ≤ 4) && (decide (t = lit "0") || !decide (t.take 1 = lit "0"))
def kindM (t : List Nat) : List Nat :=
  if t.headD 0 ∈ LT ∧ t.length ≤ 12 then lit "name" else
  if t.headD 0 ∈ DG ∧ numM t = true then lit "number" else if subS t (lit ":,;") = true then lit "sign" else lit "bad"
theorem ixS_0 {c : Nat} {r : List Nat} {G : GS} : ixS (c :: r) 0 G = .ok (.str [c]) G := ixS_get (k := 0) rfl
theorem is_number_eq {c : Nat} {r : List Nat} {G : GS} (hl : (c :: r).length ≤ 100000) : F_is_number [.str (c :: r)] G = .ok (.bl (numM (c :: r))) G := by
  refine wE_toEq ?_
  have hll : (c :: r).length ≤ maxLine := by unfold maxLine; omega
  have hll' : r.length + 1 ≤ maxLine := hll
  have e0 : (((r.length + 1 : Nat) : Int) ≤ 4) ↔ r.length + 1 ≤ 4 := by omega
  simp only [ZWP, F_is_number, wE_fun, B_is_number, S_is_number_1, fLen_str, hll, hll']
  have e4 : numM (c :: r) = (decide (r.length + 1 ≤ 4) && (decide (c :: r = lit "0") || !decide ([c] = lit "0"))) := rfl
  rw [e4]
  by_cases h4 : r.length + 1 ≤ 4
  · have h4' : ((r.length + 1 : Nat) : Int) ≤ 4 := by omega
    by_cases h0 : c :: r = lit "0"
    · simp only [ZWP, h4', h4, h0, cEq_str, decide_true, Bool.true_and, Bool.true_or]
    · simp only [ZWP, h4', h4, h0, cEq_str, bxA_str, hll, hll', ixS_0, decide_true, decide_false, Bool.true_and, Bool.false_or]
  · have h4' : ¬ ((r.length + 1 : Nat) : Int) ≤ 4 := by omega
    simp only [ZWP, h4', h4, decide_false, Bool.false_and]
theorem cInA_str (neg : Bool) (a b : List Nat) (G : GS) : cInA neg (.str a) (.str b) G = .ok (.bl (xor neg (subS a b))) G := rfl
theorem kind_of_eq {c : Nat} {r : List Nat} {G : GS} (hl : (c :: r).length ≤ 100000) : F_kind_of [.str (c :: r)] G = .ok (.str (kindM (c :: r))) G := by
  refine wE_toEq ?_
  have hll : (c :: r).length ≤ maxLine := by unfold maxLine; omega
  have hll' : r.length + 1 ≤ maxLine := hll
  have n1 := fun G => is_number_eq (c := c) (r := r) (G := G) hl
  have e1 : lit "abcdefghijklmnopqrstuvwxyz" = LT := rfl
  have e2 : lit "0123456789" = DG := rfl
  have ek : kindM (c :: r) = if c ∈ LT ∧ r.length + 1 ≤ 12 then lit "name" else if c ∈ DG ∧ numM (c :: r) = true then lit "number" else if subS (c :: r) (lit ":,;") = true then lit "sign" else lit "bad" := rfl
  rw [ek]
  have e0 : (((r.length + 1 : Nat) : Int) ≤ 12) ↔ r.length + 1 ≤ 12 := by omega
  by_cases h1 : c ∈ LT <;> by_cases h2 : r.length + 1 ≤ 12 <;> by_cases h3 : c ∈ DG <;> cases hn : numM (c :: r) <;> cases hs : subS (c :: r) (lit ":,;") <;>
  · simp only [ZWP, F_kind_of, wE_fun, B_kind_of, S_kind_of_1, C_kind_of_1, S_kind_of_2, S_kind_of_3, C_kind_of_3, S_kind_of_4, S_kind_of_5, C_kind_of_5, S_kind_of_6, S_kind_of_7, fLen_str, bxA_str, hll, hll', ixS_0, cInA_one, cInA_str, subS_one, e1, e2, e0, n1, hn, hs, h1, h2, h3, decide_true, decide_false]
/-- the tokens of a line -/
def toksM : Nat → List Nat → List (List Nat)
  | 0, _ => []
  | _ + 1, [] => []
  | n + 1, c :: r => if c = 32 then toksM n r else tokAt (c :: r) :: toksM n ((c :: r).drop (tokAt (c :: r)).length)
theorem tokAt_pos {c : Nat} {r : List Nat} : 0 < (tokAt (c :: r)).length ∧ (tokAt (c :: r)).length ≤ r.length + 1 := by
  show 0 < (if c ∈ LT then tw LT (c :: r) else if c ∈ DG then tw DG (c :: r) else [c]).length ∧ (if c ∈ LT then tw LT (c :: r) else if c ∈ DG then tw DG (c :: r) else [c]).length ≤ r.length + 1
  have h : ∀ cs, c ∈ cs → 0 < (tw cs (c :: r)).length := fun cs hc => by
    unfold tw
    rw [List.takeWhile_cons, if_pos (decide_eq_true hc)]
    exact Nat.succ_pos _
  split
  · rename_i q; exact ⟨h _ q, tw_le _ _⟩
  · split
    · rename_i q; exact ⟨h _ q, tw_le _ _⟩
    · exact ⟨Nat.succ_pos _, by simp⟩
theorem toksM_nil (n : Nat) : toksM n [] = [] := by cases n <;> rfl
theorem toksM_more : ∀ (n : Nat) (l : List Nat), l.length ≤ n → toksM n l = toksM l.length l
  | 0, l, h => by
    have : l = [] := List.length_eq_zero_iff.mp (by omega)
    subst this; rfl
  | n + 1, [], _ => by rw [toksM_nil, toksM_nil]
  | n + 1, c :: r, h => by
    have hr : r.length ≤ n := by simpa using h
    show (if c = 32 then toksM n r else tokAt (c :: r) :: toksM n ((c :: r).drop (tokAt (c :: r)).length)) = if c = 32 then toksM r.length r else tokAt (c :: r) :: toksM r.length ((c :: r).drop (tokAt (c :: r)).length)
    have tp := tokAt_pos (c := c) (r := r)
    have hd : ((c :: r).drop (tokAt (c :: r)).length).length ≤ r.length := by rw [List.length_drop, List.length_cons]; omega
    rw [toksM_more n r hr, toksM_more n _ (Nat.le_trans hd hr)]
    split
    · rfl
    · by_cases hrn : r.length < n + 1
      · rw [← toksM_more r.length ((c :: r).drop (tokAt (c :: r)).length) hd]
      · omega
termination_by n l => n
def toks (l : List Nat) : List (List Nat) := toksM l.length l
theorem toks_nil : toks [] = [] := rfl
theorem toks_sp (r : List Nat) : toks (32 :: r) = toks r := by
  show (if (32 : Nat) = 32 then toksM r.length r else tokAt (32 :: r) :: toksM r.length ((32 :: r).drop (tokAt (32 :: r)).length)) = toksM r.length r
  rw [if_pos rfl]
theorem toks_tok {c : Nat} {r : List Nat} (h : c ≠ 32) : toks (c :: r) = tokAt (c :: r) :: toks ((c :: r).drop (tokAt (c :: r)).length) := by
  show (if c = 32 then toksM r.length r else tokAt (c :: r) :: toksM r.length ((c :: r).drop (tokAt (c :: r)).length)) = _
  rw [if_neg h]
  have tp := tokAt_pos (c := c) (r := r)
  have hd : ((c :: r).drop (tokAt (c :: r)).length).length ≤ r.length := by rw [List.length_drop, List.length_cons]; omega
  rw [toksM_more _ _ hd]; rfl
def tokD (t : List Nat) : D := .tup [.str (kindM t), .str t]
theorem lit_sp : lit " " = [32] := by decide +kernel
theorem nrDs_toks (l : List (List Nat)) : nrDs (l.map tokD) = true := by
  rw [nrDs_all]
  intro d hd
  obtain ⟨t, _, rfl⟩ := List.mem_map.mp hd
  rfl
theorem tokens_eq {line : List Nat} {G : GS} (hl : line.length < 100000) : F_tokens [.str line] G = .ok (.lst ((toks line).map tokD)) G := by
  have hll : line.length ≤ maxLine := by unfold maxLine; omega
  refine wE_toEq ?_
  simp only [ZWP, F_tokens, wE_fun, B_tokens, S_tokens_1, S_tokens_2, S_tokens_3]
  refine wp_while (fun m σ G' => ∃ (e : Nat) (acc : List (List Nat)) (s : Option D), σ = [some (.str line), some (.ref G.length), some (.int (e : Int)), s] ∧ G' = G ++ [.lst (acc.map tokD)] ∧ e ≤ line.length ∧ m = line.length - e ∧ acc ++ toks (line.drop e) = toks line ∧ acc.length ≤ e) fuel line.length _ _ (by unfold fuel; omega) ⟨0, [], none, rfl, rfl, Nat.zero_le _, rfl, rfl, Nat.le_refl _⟩ ?_
  rintro m σ G' ⟨e, acc, s, rfl, rfl, he, rfl, hw, ha⟩
  simp only [ZWP, W_tokens_3, fLen_str, hll]
  by_cases h : e < line.length
  · have eg : line[e]? = some line[e] := List.getElem?_eq_getElem h
    have dr := List.drop_eq_getElem_cons h
    rw [if_pos (by omega)]
    simp only [ZWP, L_tokens_3, S_tokens_4, C_tokens_4, bxA_str, hll, ixS_get eg, cEq_str, lit_sp]
    by_cases h32 : line[e] = 32
    · rw [dr, h32, toks_sp] at hw
      have hx : ([line[e]] = [32]) := by rw [h32]
      simp only [ZWP, hx, S_tokens_5]
      exact ⟨line.length - (e + 1), by omega, e + 1, acc, s, rfl, rfl, by omega, rfl, hw, by omega⟩
    · have hx : ¬ ([line[e]] = [32]) := fun z => h32 (by injection z)
      have tp := tokAt_pos (c := line[e]) (r := line.drop (e + 1))
      rw [← dr] at tp
      have hd0 : (line.drop (e + 1)).length = line.length - (e + 1) := List.length_drop
      have kd : ∀ G, F_kind_of [.str (tokAt (line.drop e))] G = .ok (.str (kindM (tokAt (line.drop e)))) G := fun G => by
        cases q : tokAt (line.drop e) with
        | nil => rw [q] at tp; simp at tp
        | cons c r => exact kind_of_eq (by rw [← q]; omega)
      have tl : (tokAt (line.drop e)).length ≤ maxLine := by unfold maxLine; omega
      rw [dr, toks_tok h32, ← dr, List.drop_drop] at hw
      simp only [ZWP, hx, S_tokens_7, string_at_eq (line := line) (a := e) h hl, S_tokens_8, kd, S_tokens_9, fLen_str, tl]
      refine ⟨lt_line (by omega), line.length - (e + (tokAt (line.drop e)).length), by omega, e + (tokAt (line.drop e)).length, acc ++ [tokAt (line.drop e)], _, rfl, ?_, by omega, rfl, by rw [List.append_assoc]; exact hw, by simp; omega⟩
      rw [List.map_append]
      rfl
  · rw [if_neg (by omega)]
    rw [List.drop_eq_nil_of_le (by omega), toks_nil, List.append_nil] at hw
    simp only [ZWP, S_tokens_10]
    rw [hw, fin_new (nrDs_toks _)]
    exact ⟨rfl, rfl⟩

def numB5 (t : List Nat) (i : Int) : Bool := decide (t.length ≤ 2) && !t.isEmpty && (t.all fun c => decide (c ∈ DG)) && decide (kindM t = lit "number") && decide (intOf t = some i)
theorem nums_ok : ∀ i : Fin 51, numB5 (strI (i.1 : Int)) (i.1 : Int) = true := by decide +kernel

/-! ## written lines and their tokens -/
theorem num_ok {i : Int} (h : 0 ≤ i ∧ i ≤ 50) : numB5 (strI i) i = true := by
  have := nums_ok ⟨i.toNat, by omega⟩
  rwa [show ((⟨i.toNat, by omega⟩ : Fin 51).1 : Int) = i from by show ((i.toNat : Nat) : Int) = i; omega] at this
structure NumS (t : List Nat) (i : Int) : Prop where
  len : t.length ≤ 2
  ne : t ≠ []
  dg : ∀ c ∈ t, c ∈ DG
  kind : kindM t = lit "number"
  val : intOf t = some i
theorem num_s {i : Int} (h : 0 ≤ i ∧ i ≤ 50) : NumS (strI i) i := by
  have h := num_ok h
  unfold numB5 at h
  simp only [Bool.and_eq_true, decide_eq_true_eq, List.all_eq_true, Bool.not_eq_true', List.isEmpty_eq_false_iff] at h
  exact ⟨h.1.1.1.1, h.1.1.1.2, h.1.1.2, h.1.2, h.2⟩
theorem tw_app {cs : List Nat} : ∀ {w r : List Nat}, (∀ c ∈ w, c ∈ cs) → (∀ c, r.head? = some c → c ∉ cs) → tw cs (w ++ r) = w
  | [], [], _, _ => rfl
  | [], c :: r, _, h => by rw [List.nil_append, tw_cons, if_neg (h c rfl)]
  | c :: w, r, h1, h2 => by rw [List.cons_append, tw_cons, if_pos (h1 c (List.mem_cons_self ..)), tw_app (fun x hx => h1 x (List.mem_cons_of_mem _ hx)) h2]
theorem sp_lt : 32 ∉ LT := by decide +kernel
theorem dg_no : ∀ c ∈ DG, c ∉ LT ∧ c ≠ 32 := by decide +kernel
theorem toks_name {w r : List Nat} (h1 : 1 ≤ w.length) (h2 : ∀ c ∈ w, c ∈ LT) (h3 : ∀ c, r.head? = some c → c ∉ LT) : toks (w ++ r) = w :: toks r := by
  match w, h1, h2 with
  | c :: t, _, h2 =>
    have hc : c ∈ LT := h2 c (List.mem_cons_self ..)
    have hta : tokAt ((c :: t) ++ r) = c :: t := by
      show (if c ∈ LT then tw LT ((c :: t) ++ r) else if c ∈ DG then tw DG ((c :: t) ++ r) else [c]) = c :: t
      rw [if_pos hc, tw_app h2 h3]
    have := toks_tok (c := c) (r := t ++ r) (fun z => sp_lt (z ▸ hc))
    rw [← List.cons_append, hta, List.drop_left] at this
    exact this
theorem toks_num {w r : List Nat} (h1 : w ≠ []) (h2 : ∀ c ∈ w, c ∈ DG) (h3 : ∀ c, r.head? = some c → c ∉ DG) : toks (w ++ r) = w :: toks r := by
  match w, h1, h2 with
  | c :: t, _, h2 =>
    have hc : c ∈ DG := h2 c (List.mem_cons_self ..)
    have hta : tokAt ((c :: t) ++ r) = c :: t := by
      show (if c ∈ LT then tw LT ((c :: t) ++ r) else if c ∈ DG then tw DG ((c :: t) ++ r) else [c]) = c :: t
      rw [if_neg (dg_no c hc).1, if_pos hc, tw_app h2 h3]
    have := toks_tok (c := c) (r := t ++ r) (dg_no c hc).2
    rw [← List.cons_append, hta, List.drop_left] at this
    exact this
theorem toks_sign {c : Nat} {r : List Nat} (h1 : c ∉ LT) (h2 : c ∉ DG) (h3 : c ≠ 32) : toks (c :: r) = [c] :: toks r := by
  have hta : tokAt (c :: r) = [c] := by
    show (if c ∈ LT then tw LT (c :: r) else if c ∈ DG then tw DG (c :: r) else [c]) = [c]
    rw [if_neg h1, if_neg h2]
  have := toks_tok (c := c) (r := r) h3
  rw [hta] at this
  exact this
theorem s58 : 58 ∉ LT ∧ 58 ∉ DG := by decide +kernel
theorem s59 : 59 ∉ LT ∧ 59 ∉ DG := by decide +kernel
theorem s44 : 44 ∉ LT ∧ 44 ∉ DG := by decide +kernel
theorem s32 : 32 ∉ LT ∧ 32 ∉ DG := by decide +kernel
def nmOf (b : List Itm) (i : Nat) : List Nat := match b[i]? with | some x => x.nm | none => []
def pieceT (b : List Itm) (p : Nat × Int) : List Nat := if p.2 = 1 then nmOf b p.1 else strI p.2 ++ 32 :: nmOf b p.1
def pieceK (b : List Itm) (p : Nat × Int) : List (List Nat) := if p.2 = 1 then [nmOf b p.1] else [strI p.2, nmOf b p.1]
def partsK (b : List Itm) : List (Nat × Int) → List (List Nat)
  | [] => []
  | [p] => pieceK b p
  | p :: q :: r => pieceK b p ++ [44] :: partsK b (q :: r)
def daysW : List Nat := lit "days"
def yieldsW : List Nat := lit "yields"
theorem daysW_ok : NmA daysW := NmB_iff.mp (by decide +kernel)
theorem yieldsW_ok : NmA yieldsW := NmB_iff.mp (by decide +kernel)
def partsT (b : List Itm) (ps : List (Nat × Int)) : List Nat := joinL [44, 32] (ps.map (pieceT b))
def lineT (b : List Itm) (x : Itm) : List Nat := x.nm ++ (58 :: 32 :: (partsT b x.ps ++ (59 :: 32 :: (strI x.lead ++ (32 :: (daysW ++ (59 :: 32 :: (strI x.lot ++ (32 :: (yieldsW ++ (32 :: (strI x.good ++ []))))))))))))
def lineK (b : List Itm) (x : Itm) : List (List Nat) := x.nm :: [58] :: (partsK b x.ps ++ [59] :: strI x.lead :: daysW :: [59] :: strI x.lot :: yieldsW :: [strI x.good])
theorem toks_piece {b : List Itm} {p : Nat × Int} (hn : NmA (nmOf b p.1)) (hq : 1 ≤ p.2 ∧ p.2 ≤ 20) {r : List Nat} (h : ∀ c, r.head? = some c → c ∉ LT) : toks (pieceT b p ++ r) = pieceK b p ++ toks r := by
  unfold pieceT pieceK
  split
  · exact toks_name hn.1 hn.2.2 h
  · have hs := num_s (i := p.2) (by omega)
    rw [List.append_assoc, List.cons_append, toks_num hs.ne hs.dg (fun c hc => by cases hc; exact s32.2), toks_sp, toks_name hn.1 hn.2.2 h]
    rfl
theorem toks_parts {b : List Itm} : ∀ {ps : List (Nat × Int)}, (∀ p ∈ ps, NmA (nmOf b p.1) ∧ 1 ≤ p.2 ∧ p.2 ≤ 20) → ∀ {r : List Nat}, (∀ c, r.head? = some c → c ∉ LT) → toks (partsT b ps ++ r) = partsK b ps ++ toks r
  | [], _, r, _ => rfl
  | [p], h, r, hr => by
    have := h p (List.mem_cons_self ..)
    show toks (pieceT b p ++ r) = pieceK b p ++ toks r
    exact toks_piece this.1 this.2 hr
  | p :: q :: ps, h, r, hr => by
    have h0 := h p (List.mem_cons_self ..)
    have ih := toks_parts (b := b) (ps := q :: ps) (fun x hx => h x (List.mem_cons_of_mem _ hx)) hr
    have e : partsT b (p :: q :: ps) ++ r = pieceT b p ++ (44 :: 32 :: (partsT b (q :: ps) ++ r)) := by
      show (pieceT b p ++ ([44, 32] ++ joinL [44, 32] ((q :: ps).map (pieceT b)))) ++ r = _
      simp [partsT]
    rw [e, toks_piece h0.1 h0.2 (fun c hc => by cases hc; exact s44.1), toks_sign s44.1 s44.2 (by decide), toks_sp, ih]
    show _ = (pieceK b p ++ [44] :: partsK b (q :: ps)) ++ toks r
    simp
structure LineOk (b : List Itm) (x : Itm) : Prop where
  nm : NmA x.nm
  few : x.ps.length ≤ 4
  ps : ∀ p ∈ x.ps, NmA (nmOf b p.1) ∧ 1 ≤ p.2 ∧ p.2 ≤ 20
  lead : 0 ≤ x.lead ∧ x.lead ≤ 10
  lot : 1 ≤ x.lot ∧ x.lot ≤ 50
  good : 1 ≤ x.good ∧ x.good ≤ x.lot
theorem toks_line {b : List Itm} {x : Itm} (h : LineOk b x) : toks (lineT b x) = lineK b x := by
  have n1 := num_s (i := x.lead) (by have := h.lead; omega)
  have n2 := num_s (i := x.lot) (by have := h.lot; omega)
  have n3 := num_s (i := x.good) (by have := h.lot; have := h.good; omega)
  unfold lineT lineK
  rw [toks_name h.nm.1 h.nm.2.2 (fun c hc => by cases hc; exact s58.1), toks_sign s58.1 s58.2 (by decide), toks_sp, toks_parts h.ps (fun c hc => by cases hc; exact s59.1), toks_sign s59.1 s59.2 (by decide), toks_sp,
    toks_num n1.ne n1.dg (fun c hc => by cases hc; exact s32.2), toks_sp, toks_name daysW_ok.1 daysW_ok.2.2 (fun c hc => by cases hc; exact s59.1), toks_sign s59.1 s59.2 (by decide), toks_sp,
    toks_num n2.ne n2.dg (fun c hc => by cases hc; exact s32.2), toks_sp, toks_name yieldsW_ok.1 yieldsW_ok.2.2 (fun c hc => by cases hc; exact s32.1), toks_sp, toks_num n3.ne n3.dg (fun c hc => by cases hc), toks_nil]
theorem kind_name {w : List Nat} (h : NmA w) : kindM w = lit "name" := by
  unfold kindM
  match w, h with
  | c :: t, h => rw [if_pos ⟨h.2.2 c (List.mem_cons_self ..), h.2.1⟩]
theorem kind_58 : kindM [58] = lit "sign" := by decide +kernel
theorem kind_59 : kindM [59] = lit "sign" := by decide +kernel
theorem kind_44 : kindM [44] = lit "sign" := by decide +kernel
theorem nmOf_ok {n : Nat} {b : List Itm} (hb : BillOk n b) (hn : ∀ x ∈ b, NmA x.nm) {i : Nat} (hi : i < b.length) : NmA (nmOf b i) := by
  unfold nmOf
  rw [List.getElem?_eq_getElem hi]
  exact hn _ (List.getElem_mem hi)
theorem line_ok {n : Nat} {b : List Itm} (hb : BillOk n b) (hn : ∀ x ∈ b, NmA x.nm) {x : Itm} (hx : x ∈ b) : LineOk b x := by
  have h := hb.itm x hx
  exact ⟨hn x hx, h.few, fun p hp => by have := h.ps p hp; exact ⟨nmOf_ok hb hn this.1, this.2⟩, h.lead, h.lot, h.good⟩

/-! ## the written bill -/
theorem l_colon : lit ": " = [58, 32] := by decide +kernel
theorem l_semi : lit "; " = [59, 32] := by decide +kernel
theorem l_comma : lit ", " = [44, 32] := by decide +kernel
theorem l_days : lit " days; " = 32 :: (daysW ++ [59, 32]) := by decide +kernel
theorem l_yields : lit " yields " = 32 :: (yieldsW ++ [32]) := by decide +kernel
theorem l_nl : lit "\n" = [10] := by decide +kernel
theorem l_none : lit "" = [] := by decide +kernel
theorem daysW_len : daysW.length = 4 := by decide +kernel
theorem yieldsW_len : yieldsW.length = 6 := by decide +kernel
theorem log_small {i : Int} (h : 0 ≤ i ∧ i ≤ 50) : i.natAbs.log2 < 1920 := by
  have h1 : i.natAbs ≤ 50 := by omega
  by_cases h0 : i.natAbs = 0
  · rw [h0]; decide
  · exact Nat.lt_of_le_of_lt (Nat.le_of_lt ((Nat.log2_lt h0).mpr (Nat.lt_of_le_of_lt h1 (show 50 < 2 ^ 6 by decide)))) (by decide)
theorem bill_at {b : List Itm} {i : Nat} {x : Itm} (h : b[i]? = some x) : (b.map Itm.d)[i]? = some x.d := by rw [List.getElem?_map, h]; rfl
theorem piece_len {b : List Itm} {p : Nat × Int} (hn : NmA (nmOf b p.1)) (hq : 1 ≤ p.2 ∧ p.2 ≤ 20) : (pieceT b p).length ≤ 15 := by
  have h1 := hn.2.1
  have h2 := (num_s (i := p.2) (by omega)).len
  unfold pieceT
  split
  · omega
  · simp only [List.length_append, List.length_cons]; omega
theorem part_text_eq {b : List Itm} {p : Nat × Int} (hp : p.1 < b.length) (hn : NmA (nmOf b p.1)) (hq : 1 ≤ p.2 ∧ p.2 ≤ 20) {G : GS} : F_part_text [billD b, .int (p.1 : Nat), .int p.2] G = .ok (.str (pieceT b p)) G := by
  refine wE_toEq ?_
  have hx : b[p.1]? = some b[p.1] := List.getElem?_eq_getElem hp
  have hxd := bill_at hx
  have hnm : nmOf b p.1 = (b[p.1]).nm := by unfold nmOf; rw [hx]
  have h1 := hn.2.1
  have h2 := (num_s (i := p.2) (by omega)).len
  have ix0 : ∀ (x : Itm) (G : GS), bIxA x.d (.int 0) G = .ok (.str x.nm) G := fun x G => rfl
  simp only [ZWQ, F_part_text, wE_fun, B_part_text, S_part_text_1, hxd, ix0, S_part_text_2, C_part_text_2, S_part_text_3, S_part_text_4]
  unfold pieceT
  rw [hnm] at h1 ⊢
  by_cases hq1 : p.2 = 1
  · rw [if_pos hq1, if_pos hq1]
  · rw [if_neg hq1, if_neg hq1]
    simp only [ZWQ, wE_jsC, wE_fmt, fmtV_int (log_small (i := p.2) (by omega)), fmtV_str, jsW_str, wE_jsN]
    rw [lit_sp]
    exact ⟨by unfold maxLine; omega, by unfold maxLine; show _ + 1 ≤ _; omega, by unfold maxLine; omega, by unfold maxLine; show _ + 1 + _ ≤ _; omega, rfl⟩
theorem joinL_len {sep : List Nat} {k : Nat} : ∀ {ys : List (List Nat)}, (∀ y ∈ ys, y.length ≤ k) → (joinL sep ys).length ≤ ys.length * (k + sep.length)
  | [], _ => Nat.zero_le _
  | [y], h => by
    have := h y (List.mem_cons_self ..)
    show y.length ≤ 1 * _
    omega
  | y :: z :: r, h => by
    have h0 := h y (List.mem_cons_self ..)
    have ih := joinL_len (sep := sep) (ys := z :: r) fun x hx => h x (List.mem_cons_of_mem _ hx)
    show (y ++ (sep ++ joinL sep (z :: r))).length ≤ _
    rw [List.length_append, List.length_append, List.length_cons, Nat.succ_mul]
    omega
theorem parts_len {b : List Itm} {ps : List (Nat × Int)} (hf : ps.length ≤ 4) (h : ∀ p ∈ ps, NmA (nmOf b p.1) ∧ 1 ≤ p.2 ∧ p.2 ≤ 20) : (partsT b ps).length ≤ 68 := by
  have := joinL_len (sep := [44, 32]) (k := 15) (ys := ps.map (pieceT b)) (fun y hy => by
    obtain ⟨p, hp, rfl⟩ := List.mem_map.mp hy
    exact piece_len (h p hp).1 (h p hp).2)
  rw [List.length_map] at this
  have h2 : ps.length * (15 + ([44, 32] : List Nat).length) ≤ 4 * 17 := Nat.mul_le_mul hf (Nat.le_refl _)
  show (joinL _ _).length ≤ 68
  omega
theorem line_len {b : List Itm} {x : Itm} (h : LineOk b x) : (lineT b x).length ≤ 130 := by
  have n1 := (num_s (i := x.lead) (by have := h.lead; omega)).len
  have n2 := (num_s (i := x.lot) (by have := h.lot; omega)).len
  have n3 := (num_s (i := x.good) (by have := h.lot; have := h.good; omega)).len
  have n4 := parts_len h.few h.ps
  have n5 := h.nm.2.1
  unfold lineT
  simp only [List.length_append, List.length_cons, List.length_nil, daysW_len, yieldsW_len]
  omega
theorem mJoin_strs {a : List Nat} {ys : List (List Nat)} {G : GS} (h : (ys.map (·.length)).sum + ys.length * a.length ≤ 16777216) : mJoin (.str a) [.lst (ys.map D.str)] G = .ok (.str (joinL a ys)) G := by
  unfold mJoin
  simp only [seqOf, lstOf, Option.bind_some, strsD_strs]
  rw [if_pos h]
theorem sum_len {k : Nat} : ∀ {ys : List (List Nat)}, (∀ y ∈ ys, y.length ≤ k) → (ys.map (·.length)).sum ≤ ys.length * k
  | [], _ => by simp
  | y :: ys, h => by
    have h0 := h y (List.mem_cons_self ..)
    have ih := sum_len (ys := ys) fun x hx => h x (List.mem_cons_of_mem _ hx)
    rw [List.map_cons, List.sum_cons, List.length_cons, Nat.succ_mul]
    omega
theorem lineT_eq (b : List Itm) (x : Itm) : x.nm ++ ([58, 32] ++ (partsT b x.ps ++ ([59, 32] ++ (strI x.lead ++ ((32 :: (daysW ++ [59, 32])) ++ (strI x.lot ++ ((32 :: (yieldsW ++ [32])) ++ (strI x.good ++ [10])))))))) = lineT b x ++ [10] := by
  unfold lineT
  simp
theorem line_of_eq {n : Nat} {b : List Itm} (hb : BillOk n b) (hnm : ∀ x ∈ b, NmA x.nm) {x : Itm} (hx : x ∈ b) {G : GS} : F_line_of [billD b, x.d] G = .ok (.str (lineT b x ++ [10])) G := by
  have h := line_ok hb hnm hx
  have hi := hb.itm x hx
  refine wE_toEq ?_
  have hxd : x.d = .tup [.str x.nm, .tup (x.ps.map prD), .int x.lead, .int x.lot, .int x.good] := rfl
  simp only [ZWQ, F_line_of, wE_fun, B_line_of, S_line_of_1, hxd, S_line_of_2]
  refine wp_sealA x.ps prD (fun p => some (.str (pieceT b p))) ?_
  simp only [ZWQ]
  refine ⟨by simp, le_line (by have := h.few; omega), fun p hp acc => ?_, fun p _ y hy => by cases hy; rfl, ?_⟩
  · have hp1 := h.ps p hp
    have hpe := fun G => part_text_eq (b := b) (p := p) (G := G) (hi.ps p hp).1 hp1.1 hp1.2
    simp only [ZWQ, prD, hpe]
  · have e1 : x.ps.filterMap (fun p => some (D.str (pieceT b p))) = (x.ps.map (pieceT b)).map D.str := by
      rw [List.map_map, List.filterMap_eq_map']; rfl
    have hs := sum_len (k := 15) (ys := x.ps.map (pieceT b)) (fun y hy => by
      obtain ⟨p, hp, rfl⟩ := List.mem_map.mp hy
      exact piece_len (h.ps p hp).1 (h.ps p hp).2)
    have hf := h.few
    have hjn : ∀ G, mJoin (.str [44, 32]) [.lst ((x.ps.map (pieceT b)).map D.str)] G = .ok (.str (partsT b x.ps)) G := fun G => mJoin_strs (by
      rw [List.length_map] at hs ⊢
      have : x.ps.length * 15 ≤ 4 * 15 := Nat.mul_le_mul_right _ hf
      have : x.ps.length * ([44, 32] : List Nat).length ≤ 4 * 2 := Nat.mul_le_mul_right _ hf
      omega)
    have n1 := (num_s (i := x.lead) (by have := h.lead; omega)).len
    have n2 := (num_s (i := x.lot) (by have := h.lot; omega)).len
    have n3 := (num_s (i := x.good) (by have := h.lot; have := h.good; omega)).len
    have n4 := parts_len h.few h.ps
    have n5 := h.nm.2.1
    have g1 := fun G => fmtV_int (G := G) (log_small (i := x.lead) (by have := h.lead; omega))
    have g2 := fun G => fmtV_int (G := G) (log_small (i := x.lot) (by have := h.lot; omega))
    have g3 := fun G => fmtV_int (G := G) (log_small (i := x.good) (by have := h.lot; have := h.good; omega))
    simp only [ZWQ, e1, l_comma, hjn, S_line_of_3, wE_jsC, wE_fmt, g1, g2, g3, fmtV_str, jsW_str, wE_jsN, l_colon, l_semi, l_days, l_yields, l_nl]
    have e2 : D.str (x.nm ++ 58 :: 32 :: (partsT b x.ps ++ 59 :: 32 :: (strI x.lead ++ 32 :: (daysW ++ 59 :: 32 :: (strI x.lot ++ 32 :: (yieldsW ++ 32 :: (strI x.good ++ [10]))))))) = D.str (lineT b x ++ [10]) := by
      unfold lineT
      simp
    simp only [daysW_len, yieldsW_len]
    unfold maxLine
    exact ⟨by omega, by omega, by omega, by omega, by omega, by omega, by omega, by omega, by omega, by omega, by omega, by omega, e2⟩
def textT (b : List Itm) : List Nat := (b.map fun x => lineT b x ++ [10]).flatten
theorem joinL_nil : ∀ ys : List (List Nat), joinL [] ys = ys.flatten
  | [] => rfl
  | [y] => by simp [joinL, TL.joinL]
  | y :: z :: r => by
    show y ++ ([] ++ joinL [] (z :: r)) = _
    rw [joinL_nil (z :: r)]
    simp
theorem write_bill_eq {n : Nat} {b : List Itm} (hb : BillOk n b) (hn : n ≤ 8) (hnm : ∀ x ∈ b, NmA x.nm) {G : GS} : F_write_bill [billD b] G = .ok (.str (textT b)) G := by
  refine wE_toEq ?_
  have hlen := hb.most
  simp only [ZWQ, F_write_bill, wE_fun, B_write_bill, S_write_bill_1]
  refine wp_sealA b Itm.d (fun x => some (.str (lineT b x ++ [10]))) ?_
  simp only [ZWQ]
  refine ⟨by unfold billD; simp, le_line (by omega), fun x hx acc => ?_, fun p _ y hy => by cases hy; rfl, ?_⟩
  · have hpe := fun G => line_of_eq hb hnm hx (G := G)
    simp only [ZWQ, hpe]
  · have e1 : b.filterMap (fun x => some (D.str (lineT b x ++ [10]))) = (b.map fun x => lineT b x ++ [10]).map D.str := by
      rw [List.map_map, List.filterMap_eq_map']; rfl
    have hs := sum_len (k := 131) (ys := b.map fun x => lineT b x ++ [10]) (fun y hy => by
      obtain ⟨x, hx, rfl⟩ := List.mem_map.mp hy
      have := line_len (line_ok hb hnm hx)
      rw [List.length_append]; show _ + 1 ≤ _; omega)
    have hjn : ∀ G, mJoin (.str []) [.lst ((b.map fun x => lineT b x ++ [10]).map D.str)] G = .ok (.str (textT b)) G := fun G => by
      rw [mJoin_strs (by
        rw [List.length_map] at hs ⊢
        have : b.length * 131 ≤ 8 * 131 := Nat.mul_le_mul_right _ (by omega)
        rw [show ([] : List Nat).length = 0 from rfl, Nat.mul_zero]
        omega), joinL_nil]
      rfl
    simp only [ZWQ, e1, l_none, hjn]
theorem write_none {G : GS} : F_write_bill [.tup []] G = .ok (.str []) G := by
  refine wE_toEq ?_
  simp only [ZWQ, F_write_bill, wE_fun, B_write_bill, S_write_bill_1]
  refine wp_sealA (α := Itm) [] Itm.d (fun x => none) ?_
  simp only [ZWQ]
  refine ⟨by simp, (fun x hx => by cases hx), (fun x hx => by cases hx), ?_⟩
  have hjn : ∀ G, mJoin (.str []) [.lst []] G = .ok (.str []) G := fun G => mJoin_strs (a := []) (ys := []) (by decide)
  simp only [ZWQ, List.filterMap_nil, l_none, hjn]

/-! ## the law's text -/
theorem fStr_int {i : Int} {G : GS} (h : 0 ≤ i ∧ i ≤ 50) : fStr [.int i] G = .ok (.str (strI i)) G := by
  unfold fStr
  simp only
  rw [if_pos (log_small h)]
def textL (b l : List Itm) : List Nat := (l.map fun x => lineT b x ++ [10]).flatten
theorem textL_len {b l : List Itm} (h : ∀ x ∈ l, LineOk b x) : (textL b l).length ≤ l.length * 131 := by
  have := sum_len (k := 131) (ys := l.map fun x => lineT b x ++ [10]) (fun y hy => by
    obtain ⟨x, hx, rfl⟩ := List.mem_map.mp hy
    have := line_len (h x hx)
    rw [List.length_append]; show _ + 1 ≤ _; omega)
  unfold textL
  rw [List.length_flatten]
  rw [List.length_map] at this
  exact this
def lin5 (b : List Itm) (t : List Nat) (o2 o3 o4 o5 o6 o7 o8 : Option D) : PEnv := [some (billD b), some (.str t), o2, o3, o4, o5, o6, o7, o8]
theorem law_text_eq {n : Nat} {b : List Itm} (hb : BillOk n b) (hn : n ≤ 8) (hnm : ∀ x ∈ b, NmA x.nm) {G : GS} : F__law_text [billD b] G = .ok (.str (textT b)) G := by
  refine wE_toEq ?_
  have hlen := hb.most
  simp only [ZWQ, F__law_text, wE_fun, B__law_text, S__law_text_1, S__law_text_2, l_none]
  refine wp_for (fun j σ G' => ∃ (o2 o3 o4 o5 o6 o7 o8 : Option D) (t : GS), σ = lin5 b (textL b (b.take j)) o2 o3 o4 o5 o6 o7 o8 ∧ G' = G ++ t) ⟨none, none, none, none, none, none, none, [], rfl, by simp⟩ ?_ ?_
  · rintro j d σ A hd ⟨o2, o3, o4, o5, o6, o7, o8, t, rfl, hA⟩
    rw [List.getElem?_map, Option.map_eq_some_iff] at hd
    obtain ⟨x, hx, rfl⟩ := hd
    have hxm := List.mem_of_getElem? hx
    have h := line_ok hb hnm hxm
    have hi := hb.itm x hxm
    have hxd : x.d = .tup [.str x.nm, .tup (x.ps.map prD), .int x.lead, .int x.lot, .int x.good] := rfl
    have htk : textL b (b.take (j + 1)) = textL b (b.take j) ++ (lineT b x ++ [10]) := by
      unfold textL
      rw [List.take_succ, hx, List.map_append, List.flatten_append]
      simp
    have htl := textL_len (b := b) (l := b.take j) fun y hy => line_ok hb hnm (List.mem_of_mem_take hy)
    have htl2 : (b.take j).length ≤ 8 := by rw [List.length_take]; omega
    have htl3 : (textL b (b.take j)).length ≤ 8 * 131 := Nat.le_trans htl (Nat.mul_le_mul_right _ htl2)
    simp only [ZWQ, hxd, lin5, L__law_text_2, S__law_text_3, S__law_text_4]
    refine wp_for (fun i σ G' => ∃ o8 : Option D, σ = lin5 b (textL b (b.take j)) (some (.str x.nm)) (some (.tup (x.ps.map prD))) (some (.int x.lead)) (some (.int x.lot)) (some (.int x.good)) (some (.ref A.length)) o8 ∧ G' = A ++ [.lst (((x.ps.take i).map (pieceT b)).map D.str)]) ⟨o8, rfl, by simp⟩ ?_ ?_
    · rintro i d σ G' hd ⟨o8, rfl, rfl⟩
      rw [List.getElem?_map, Option.map_eq_some_iff] at hd
      obtain ⟨p, hp, rfl⟩ := hd
      have hpm := List.mem_of_getElem? hp
      have hp1 := h.ps p hpm
      have hp2 := hi.ps p hpm
      have hy : b[p.1]? = some b[p.1] := List.getElem?_eq_getElem hp2.1
      have hyd := bill_at hy
      have hynm : nmOf b p.1 = (b[p.1]).nm := by unfold nmOf; rw [hy]
      have ix0 : ∀ (x : Itm) (G : GS), bIxA x.d (.int 0) G = .ok (.str x.nm) G := fun x G => rfl
      have hs := (num_s (i := p.2) (by omega)).len
      have hl := hp1.1.2.1
      rw [hynm] at hl
      have hpt : (x.ps.take (i + 1)).map (pieceT b) = (x.ps.take i).map (pieceT b) ++ [pieceT b p] := by rw [List.take_succ, hp, List.map_append]; rfl
      have hfst : ∀ G, fStr [.int p.2] G = .ok (.str (strI p.2)) G := fun G => fStr_int (by omega)
      simp only [ZWQ, prD, lin5, L__law_text_4, S__law_text_5, hfst, lit_sp, l_none, hyd, ix0]
      have hix : ∀ G, ixL [D.str (strI p.2 ++ [32]), D.str []] (if p.2 = 1 then 1 else 0) G = .ok (.str (if p.2 = 1 then [] else strI p.2 ++ [32])) G := fun G => by
        by_cases h1 : p.2 = 1
        · rw [if_pos h1, if_pos h1]; exact ixL_get (k := 1) rfl
        · rw [if_neg h1, if_neg h1]; exact ixL_get (k := 0) rfl
      have hpc : (if p.2 = 1 then [] else strI p.2 ++ [32]) ++ (b[p.1]).nm = pieceT b p := by
        unfold pieceT
        rw [hynm]
        split <;> simp
      have hpl : (if p.2 = 1 then [] else strI p.2 ++ [32] : List Nat).length ≤ 3 := by
        split
        · simp
        · rw [List.length_append]; show _ + 1 ≤ 3; omega
      refine ⟨log_small (by omega), by unfold maxLine; omega, ?_⟩
      simp only [ZWQ, hix, hyd, ix0, hpc]
      have hxl := h.few
      have htp := List.length_take_le' i x.ps
      refine ⟨by unfold maxLine; omega, lt_line (by simp; omega), _, rfl, ?_⟩
      rw [hpt, List.map_append]
      rfl
    · rintro σ G' ⟨o8, rfl, rfl⟩
      rw [List.length_map, List.take_length]
      simp only [ZWQ, lin5, S__law_text_6]
      have hs := sum_len (k := 15) (ys := x.ps.map (pieceT b)) (fun y hy => by
        obtain ⟨p, hp, rfl⟩ := List.mem_map.mp hy
        exact piece_len (h.ps p hp).1 (h.ps p hp).2)
      have hf := h.few
      have hjn : ∀ G, G[A.length]? = some (.lst ((x.ps.map (pieceT b)).map D.str)) → mJoin (.str [44, 32]) [.ref A.length] G = .ok (.str (partsT b x.ps)) G := fun G hG => by
        unfold mJoin
        simp only [seqOf, lstOf, hG, Option.bind_some, strsD_strs]
        rw [if_pos (by
          rw [List.length_map] at hs ⊢
          have : x.ps.length * 15 ≤ 4 * 15 := Nat.mul_le_mul_right _ hf
          have : x.ps.length * ([44, 32] : List Nat).length ≤ 4 * 2 := Nat.mul_le_mul_right _ hf
          omega)]
        rfl
      have hj2 := hjn (A ++ [.lst ((x.ps.map (pieceT b)).map D.str)]) (by simp)
      have n1 := (num_s (i := x.lead) (by have := h.lead; omega)).len
      have n2 := (num_s (i := x.lot) (by have := h.lot; omega)).len
      have n3 := (num_s (i := x.good) (by have := h.lot; have := h.good; omega)).len
      have n4 := parts_len h.few h.ps
      have n5 := h.nm.2.1
      have g1 := fun G => fStr_int (G := G) (i := x.lead) (by have := h.lead; omega)
      have g2 := fun G => fStr_int (G := G) (i := x.lot) (by have := h.lot; omega)
      have g3 := fun G => fStr_int (G := G) (i := x.good) (by have := h.lot; have := h.good; omega)
      simp only [ZWQ, l_comma, hj2, g1, g2, g3, l_colon, l_semi, l_days, l_yields, l_nl]
      have g4 := log_small (i := x.lead) (by have := h.lead; omega)
      have g5 := log_small (i := x.lot) (by have := h.lot; omega)
      have g6 := log_small (i := x.good) (by have := h.lot; have := h.good; omega)
      have e2 : textL b (b.take j) ++ (x.nm ++ 58 :: 32 :: (partsT b x.ps ++ 59 :: 32 :: (strI x.lead ++ 32 :: (daysW ++ 59 :: 32 :: (strI x.lot ++ 32 :: (yieldsW ++ 32 :: (strI x.good ++ [10]))))))) = textL b (b.take (j + 1)) := by
        rw [htk]
        unfold lineT
        simp
      rw [e2]
      simp only [daysW_len, yieldsW_len]
      unfold maxLine
      exact ⟨by omega, by omega, by omega, by omega, g4, by omega, by omega, g5, by omega, by omega, g6, by omega, by omega, _, _, _, _, _, _, _, t ++ [.lst ((x.ps.map (pieceT b)).map D.str)], rfl, by rw [hA]; simp⟩
  · rintro σ G' ⟨o2, o3, o4, o5, o6, o7, o8, t, rfl, rfl⟩
    simp only [ZWQ, lin5, S__law_text_7]
    rw [finish_nr rfl]
    rw [List.take_length]
    exact ⟨rfl, rfl⟩

/-! ## the reader of a line -/
def rFs (l : Int) (K : List (List Nat)) (a : Nat) : List (Str × D) := [("line", .int l), ("found", .lst (K.map tokD)), ("at", .int (a : Int))]
abbrev rO (l : Int) (K : List (List Nat)) (a : Nat) : Ob := .ins "LineReader" (rFs l K a)
theorem rf_line {G : GS} {m : Nat} {l : Int} {K : List (List Nat)} {a : Nat} (h : G[m]? = some (rO l K a)) : fldOf ["LineReader"] "line" (.ref m) G = .ok (.int l) G := by
  unfold fldOf insOf
  simp only [h]
  rfl
theorem rf_found {G : GS} {m : Nat} {l : Int} {K : List (List Nat)} {a : Nat} (h : G[m]? = some (rO l K a)) : fldOf ["LineReader"] "found" (.ref m) G = .ok (.lst (K.map tokD)) G := by
  unfold fldOf insOf
  simp only [h]
  rfl
theorem rf_at {G : GS} {m : Nat} {l : Int} {K : List (List Nat)} {a : Nat} (h : G[m]? = some (rO l K a)) : fldOf ["LineReader"] "at" (.ref m) G = .ok (.int (a : Int)) G := by
  unfold fldOf insOf
  simp only [h]
  rfl
theorem setF_rd {G : GS} {m : Nat} {f : Str} {y : D} {fs : List (Str × D)} {σ : PEnv} {P : Po} (h : G[m]? = some (.ins "LineReader" fs)) (hl : fs.length < 1000) : wS (setF ["LineReader"] f (.ref m) y σ G) P = P.nx σ (G.set m (.ins "LineReader" (putD f y fs))) := by
  unfold setF insOf
  simp only [h]
  rw [if_pos (by decide)]
  simp only [hl, if_true]
  rfl
theorem wE_meth {c m : Str} {F : DF} {o : DE} {a : DA} {σ : PEnv} {G : GS} {E : EK} {Q : D → GS → Prop} (h : wE (o σ G) E fun x G1 => selfIs c m G1 x = true ∧ wE (a σ G1) E fun xs G2 => wE (F (x :: xs) G2) E Q) : wE (eMeth c m F o a σ G) E Q := by
  unfold eMeth
  rw [wE_bind]
  refine wE_mono h (fun x G1 h => ?_) fun _ _ _ z => z
  rw [if_pos h.1, wE_bind]
  exact h.2
theorem self_rd {G : GS} {m : Nat} {l : Int} {K : List (List Nat)} {a : Nat} (h : G[m]? = some (rO l K a)) {f : Str} (hf : ((rFs l K a).lookup f).isNone = true) : selfIs "LineReader" f G (.ref m) = true := by
  simp only [selfIs, h]
  rw [hf]
  rfl
theorem tok_at {K : List (List Nat)} {a : Nat} {t : List Nat} (h : K[a]? = some t) : (K.map tokD)[a]? = some (tokD t) := by rw [List.getElem?_map, h]; rfl
theorem token_ok {G : GS} {m : Nat} {l : Int} {K : List (List Nat)} {a : Nat} {t : List Nat} (h : G[m]? = some (rO l K a)) (ht : K[a]? = some t) : F_LineReader__token [.ref m] G = .ok (tokD t) G := by
  have ha := (List.getElem?_eq_some_iff.mp ht).1
  have hne : ¬ (a = K.length) := by omega
  refine wE_toEq ?_
  simp only [ZWP, F_LineReader__token, wE_fun, B_LineReader__token, S_LineReader__token_1, C_LineReader__token_1, rf_at h, rf_found h, S_LineReader__token_3, tok_at ht]
  rw [if_neg hne]
  trivial
theorem wS_fldA {al : List Str} {f : Str} {g : D → D → GS → RE D} {o e : DE} {σ : PEnv} {G : GS} {P : Po} : wS (sFldA al f g o e σ G) P = wE (o σ G) (fun c fs G1 => P.ex c fs σ G1) fun x G1 => wS (augF al f g e x σ G1) P := by unfold sFldA; rw [wS_bind]
theorem aug_rd {G : GS} {m : Nat} {f : Str} {g : D → D → GS → RE D} {e : DE} {v : D} {fs : List (Str × D)} {σ : PEnv} {P : Po} (h : G[m]? = some (.ins "LineReader" fs)) (hf : fs.lookup f = some v) : wS (augF ["LineReader"] f g e (.ref m) σ G) P = wE (e σ G) (fun c fs G1 => P.ex c fs σ G1) fun y G3 => wE (g v y G3) (fun c fs G1 => P.ex c fs σ G1) fun z G4 => wS (setF ["LineReader"] f (.ref m) z σ G4) P := by
  unfold augF insOf
  simp only [h]
  rw [if_pos (by decide)]
  simp only [hf]
  rw [wS_bind]
  refine wE_ext fun y G3 => ?_
  rw [wS_bind]
theorem step_ok {G : GS} {m : Nat} {l : Int} {K : List (List Nat)} {a : Nat} (h : G[m]? = some (rO l K a)) : F_LineReader__step [.ref m, .bl true] G = .ok .non (G.set m (rO l K (a + 1))) := by
  refine wE_toEq ?_
  have hlk : (rFs l K a).lookup ("at" : Str) = some (D.int (a : Int)) := rfl
  simp only [ZWP, F_LineReader__step, wE_fun, B_LineReader__step, S_LineReader__step_1, C_LineReader__step_1, S_LineReader__step_3, wS_fldA, aug_rd h hlk]
  rw [setF_rd h (by show 3 < 1000; omega)]
  simp only [ZWP]
  rfl
def TxtOk (t : List Nat) : Prop := (t.all fun c => decide (c < 1114112)) = true
theorem plD_strm {l : List Nat} (h : TxtOk l) (m : Nat) : plD m (.str l) = true := by
  have : PyData.strOk (S l) = true := by
    simp only [PyData.strOk, S]
    rw [List.all_toArray]
    exact h
  cases m <;> exact this
theorem take_token_ok {G : GS} {m : Nat} {l : Int} {K : List (List Nat)} {a : Nat} {t : List Nat} (h : G[m]? = some (rO l K a)) (ht : K[a]? = some t) (hk : TxtOk (kindM t)) (hx : TxtOk t) : F_LineReader__take_token [.ref m, .str (kindM t), .str t] G = .ok .non (G.set m (rO l K (a + 1))) := by
  refine wE_toEq ?_
  have hml := (List.getElem?_eq_some_iff.mp h).1
  have hce : ∀ G, cEqB false (tokD t) (.tup [.str (kindM t), .str t]) G = .ok (.bl true) G := fun G => cEq_same (.inl rfl) (.inl rfl) (by
    show plDs 10 [.str (kindM t), .str t] = true
    simp only [plDs, plD_strm hk, plD_strm hx, Bool.and_self])
  simp only [ZWP, F_LineReader__take_token, wE_fun, B_LineReader__take_token, S_LineReader__take_token_1]
  refine wE_meth ?_
  simp only [ZWP]
  refine ⟨self_rd h rfl, ?_⟩
  refine wE_meth ?_
  simp only [ZWP]
  refine ⟨self_rd h rfl, ?_⟩
  simp only [ZWP, token_ok h ht, hce, step_ok h]
theorem take_name_ok {G : GS} {m : Nat} {l : Int} {K : List (List Nat)} {a : Nat} {t : List Nat} (h : G[m]? = some (rO l K a)) (ht : K[a]? = some t) (hk : kindM t = lit "name") : F_LineReader__take_name [.ref m] G = .ok (.str t) (G.set m (rO l K (a + 1))) := by
  refine wE_toEq ?_
  simp only [ZWP, F_LineReader__take_name, wE_fun, B_LineReader__take_name, S_LineReader__take_name_1]
  refine wE_meth ?_
  simp only [ZWP]
  refine ⟨self_rd h rfl, ?_⟩
  simp only [ZWP, token_ok h ht, tokD, S_LineReader__take_name_2]
  refine wE_meth ?_
  simp only [ZWP]
  refine ⟨self_rd h rfl, ?_⟩
  simp only [ZWP, hk, cEq_str, decide_true, step_ok h, S_LineReader__take_name_3]
theorem take_number_ok {G : GS} {m : Nat} {l : Int} {K : List (List Nat)} {a : Nat} {i lo hi : Int} (h : G[m]? = some (rO l K a)) (ht : K[a]? = some (strI i)) (hs : NumS (strI i) i) (hr : lo ≤ i ∧ i ≤ hi) : F_LineReader__take_number [.ref m, .int lo, .int hi] G = .ok (.int i) (G.set m (rO l K (a + 1))) := by
  refine wE_toEq ?_
  have h640 : (strI i).length ≤ 640 := by have := hs.len; omega
  simp only [ZWP, F_LineReader__take_number, wE_fun, B_LineReader__take_number, S_LineReader__take_number_1]
  refine wE_meth ?_
  simp only [ZWP]
  refine ⟨self_rd h rfl, ?_⟩
  simp only [ZWP, token_ok h ht, tokD, S_LineReader__take_number_2]
  refine wE_meth ?_
  simp only [ZWP]
  refine ⟨self_rd h rfl, ?_⟩
  simp only [ZWP, hs.kind, cEq_str, decide_true, hs.val, h640, hr.1, hr.2, step_ok h, S_LineReader__take_number_3]
theorem take_end_ok {G : GS} {m : Nat} {l : Int} {K : List (List Nat)} (h : G[m]? = some (rO l K K.length)) : F_LineReader__take_end [.ref m] G = .ok .non G := by
  refine wE_toEq ?_
  simp only [ZWP, F_LineReader__take_end, wE_fun, B_LineReader__take_end, S_LineReader__take_end_1, C_LineReader__take_end_1, rf_at h, rf_found h]
  rw [if_neg (by omega)]
  trivial

/-! ## the parts of a line -/
theorem drop_get {K : List (List Nat)} {a : Nat} {t : List Nat} {r : List (List Nat)} (h : K.drop a = t :: r) : K[a]? = some t ∧ K.drop (a + 1) = r := by
  have h1 : (K.drop a)[0]? = some t := by rw [h]; rfl
  rw [List.getElem?_drop] at h1
  refine ⟨by simpa using h1, ?_⟩
  rw [← List.drop_drop, h]
  rfl
def partD (b : List Itm) (a : Nat) (p : Nat × Int) : D := .tup [.int ((if p.2 = 1 then a else a + 1 : Nat) : Int), .str (nmOf b p.1), .int p.2]
def partsD (b : List Itm) : Nat → List (Nat × Int) → List D
  | _, [] => []
  | a, p :: ps => partD b a p :: partsD b (a + (pieceK b p).length + 1) ps
def restK (b : List Itm) (r : List (List Nat)) : List (Nat × Int) → List (List Nat)
  | [] => [59] :: r
  | p :: ps => [44] :: (partsK b (p :: ps) ++ [59] :: r)
theorem partsK_rest (b : List Itm) (r : List (List Nat)) (p : Nat × Int) (ps : List (Nat × Int)) : partsK b (p :: ps) ++ [59] :: r = pieceK b p ++ restK b r ps := by
  cases ps with
  | nil => rfl
  | cons q qs =>
    show (pieceK b p ++ [44] :: partsK b (q :: qs)) ++ [59] :: r = pieceK b p ++ ([44] :: (partsK b (q :: qs) ++ [59] :: r))
    simp
theorem get_set {G : GS} {m : Nat} {x y : Ob} (h : G[m]? = some x) : (G.set m y)[m]? = some y := List.getElem?_set_self (List.getElem?_eq_some_iff.mp h).1
theorem num_ne_name : ¬ (lit "name" = lit "number") := by decide +kernel
theorem read_part_ok {G : GS} {m : Nat} {l : Int} {b : List Itm} {K r : List (List Nat)} {a : Nat} {p : Nat × Int} (h : G[m]? = some (rO l K a)) (hd : K.drop a = pieceK b p ++ r) (hn : NmA (nmOf b p.1)) (hq : 1 ≤ p.2 ∧ p.2 ≤ 20) :
    F_read_part [.ref m] G = .ok (partD b a p) (G.set m (rO l K (a + (pieceK b p).length))) := by
  refine wE_toEq ?_
  have hml := (List.getElem?_eq_some_iff.mp h).1
  unfold pieceK at hd ⊢
  unfold partD
  simp only [ZWP, F_read_part, wE_fun, B_read_part, S_read_part_1, S_read_part_2]
  refine wE_meth ?_
  simp only [ZWP]
  refine ⟨self_rd h rfl, ?_⟩
  by_cases h1 : p.2 = 1
  · rw [if_pos h1] at hd
    obtain ⟨g1, g2⟩ := drop_get hd
    have hk := kind_name hn
    simp only [ZWP, token_ok h g1, tokD, hk, S_read_part_3, C_read_part_3, cEq_str, num_ne_name, decide_false, S_read_part_5, rf_at h, S_read_part_6]
    refine wE_meth ?_
    simp only [ZWP]
    refine ⟨self_rd h rfl, ?_⟩
    simp only [ZWP, take_name_ok h g1 hk, S_read_part_7]
    exact ⟨by rw [if_pos h1, h1], by rw [if_pos h1]; rfl⟩
  · rw [if_neg h1] at hd
    obtain ⟨g1, g2⟩ := drop_get hd
    obtain ⟨g3, g4⟩ := drop_get g2
    have hk := kind_name hn
    have hs := num_s (i := p.2) (by omega)
    have hG1 := get_set (y := rO l K (a + 1)) h
    simp only [ZWP, token_ok h g1, tokD, hs.kind, S_read_part_3, C_read_part_3, cEq_str, decide_true, S_read_part_4]
    refine wE_meth ?_
    simp only [ZWP]
    refine ⟨self_rd h rfl, ?_⟩
    simp only [ZWP, take_number_ok h g1 hs hq, S_read_part_5, rf_at hG1, S_read_part_6]
    refine wE_meth ?_
    simp only [ZWP]
    refine ⟨self_rd hG1 rfl, ?_⟩
    simp only [ZWP, take_name_ok hG1 g3 hk, S_read_part_7, List.set_set]
    exact ⟨by rw [if_neg h1], by rw [if_neg h1]; rfl⟩
theorem sg_tok (c : Nat) (h : kindM [c] = lit "sign") : tokD [c] = .tup [.str (lit "sign"), .str [c]] := by unfold tokD; rw [h]
theorem ceq_tok {k s k' s' : List Nat} {neg : Bool} (h1 : TxtOk k) (h2 : TxtOk s) (h3 : TxtOk k') (h4 : TxtOk s') {G : GS} : cEqB neg (.tup [.str k, .str s]) (.tup [.str k', .str s']) G = .ok (.bl (xor neg (decide (k = k' ∧ s = s')))) G := by
  have p1 : ∀ {a b : List Nat}, TxtOk a → TxtOk b → plD 11 (.tup [.str a, .str b]) = true := fun ha hb => by
    show plDs 10 [_, _] = true
    simp only [plDs, plD_strm ha, plD_strm hb, Bool.and_self]
  rw [cEq_pl (.inl rfl) (.inl rfl) (p1 h1 h2) (p1 h3 h4)]
  congr 3
  rw [Bool.eq_iff_iff, beqD_dec, decide_eq_true_eq]
  simp
theorem tx_sign : TxtOk (lit "sign") := by unfold TxtOk; decide +kernel
theorem tx_name : TxtOk (lit "name") := by unfold TxtOk; decide +kernel
theorem tx_number : TxtOk (lit "number") := by unfold TxtOk; decide +kernel
theorem tx_44 : TxtOk [44] := by unfold TxtOk; decide +kernel
theorem tx_59 : TxtOk [59] := by unfold TxtOk; decide +kernel
theorem tx_58 : TxtOk [58] := by unfold TxtOk; decide +kernel
theorem l_c44 : lit "," = [44] := by decide +kernel
theorem l_c59 : lit ";" = [59] := by decide +kernel
theorem l_c58 : lit ":" = [58] := by decide +kernel
theorem lt_small : ∀ c ∈ LT, c < 1114112 := by decide +kernel
theorem dg_small : ∀ c ∈ DG, c < 1114112 := by decide +kernel
theorem tx_nm {w : List Nat} (h : NmA w) : TxtOk w := by
  unfold TxtOk
  rw [List.all_eq_true]
  exact fun c hc => decide_eq_true (lt_small c (h.2.2 c hc))
theorem tx_num {t : List Nat} {i : Int} (h : NumS t i) : TxtOk t := by
  unfold TxtOk
  rw [List.all_eq_true]
  exact fun c hc => decide_eq_true (dg_small c (h.dg c hc))
/-- the first of a piece is no sign -/
theorem piece_first {b : List Itm} {p : Nat × Int} (hn : NmA (nmOf b p.1)) (hq : 1 ≤ p.2 ∧ p.2 ≤ 20) : ∃ t r, pieceK b p = t :: r ∧ (kindM t = lit "name" ∨ kindM t = lit "number") ∧ TxtOk t := by
  unfold pieceK
  split
  · exact ⟨_, _, rfl, .inl (kind_name hn), tx_nm hn⟩
  · have hs := num_s (i := p.2) (by omega)
    exact ⟨_, _, rfl, .inr hs.kind, tx_num hs⟩
theorem sign_ne : ¬ (lit "name" = lit "sign") ∧ ¬ (lit "number" = lit "sign") := by decide +kernel
theorem nrDs_partsD (b : List Itm) : ∀ (ps : List (Nat × Int)) (a : Nat), nrDs (partsD b a ps) = true
  | [], _ => rfl
  | p :: ps, a => by
    simp only [partsD, nrDs, nrDs_partsD b ps, partD, nrD, Bool.and_self]
theorem partsD_len (b : List Itm) : ∀ (ps : List (Nat × Int)) (a : Nat), (partsD b a ps).length = ps.length
  | [], _ => rfl
  | p :: ps, a => by simp [partsD, partsD_len b ps]
theorem set_same {G : GS} {m : Nat} {x : Ob} (h : G[m]? = some x) : G.set m x = G := by
  apply List.ext_getElem?
  intro i
  rw [List.getElem?_set]
  by_cases e : m = i
  · subst e
    rw [if_pos rfl, if_pos (List.getElem?_eq_some_iff.mp h).1, h]
  · rw [if_neg e]
theorem read_parts_ok {G : GS} {m : Nat} {l : Int} {b : List Itm} {K r : List (List Nat)} {a : Nat} {ps : List (Nat × Int)} (hG : nrG (G.set m (rO l K (a + (partsK b ps).length))) = true) (h : G[m]? = some (rO l K a)) (hd : K.drop a = partsK b ps ++ [59] :: r) (hf : ps.length ≤ 4) (hp : ∀ p ∈ ps, NmA (nmOf b p.1) ∧ 1 ≤ p.2 ∧ p.2 ≤ 20) :
    F_read_parts [.ref m] G = .ok (.lst (partsD b a ps)) (G.set m (rO l K (a + (partsK b ps).length))) := by
  refine wE_toEq ?_
  have hml := (List.getElem?_eq_some_iff.mp h).1
  have hsl : ∀ (x : Ob) (L : List D), (G ++ [Ob.lst L]).set m x = G.set m x ++ [.lst L] := fun x L => List.set_append_left _ _ hml
  have hsl2 : ∀ (x y : Ob) (L : List D), (G.set m x ++ [Ob.lst L]).set m y = G.set m y ++ [.lst L] := fun x y L => by rw [List.set_append_left _ _ (by rw [List.length_set]; exact hml), List.set_set]
  have hgl : ∀ (x : Ob) (L : List D), (G.set m x ++ [Ob.lst L])[G.length]? = some (.lst L) := fun x L => by
    rw [List.getElem?_append_right (by rw [List.length_set]; omega), List.length_set, Nat.sub_self]; rfl
  have hsg : ∀ (x : Ob) (L L' : List D), (G.set m x ++ [Ob.lst L]).set G.length (.lst L') = G.set m x ++ [.lst L'] := fun x L L' => by
    rw [List.set_append_right _ _ (by rw [List.length_set]; omega), List.length_set, Nat.sub_self]; rfl
  have hgm : ∀ (x : Ob) (L : List D), (G.set m x ++ [Ob.lst L])[m]? = some x := fun x L => by
    rw [List.getElem?_append_left (by rw [List.length_set]; exact hml)]; exact get_set h
  have hg1 : (G ++ [Ob.lst []])[m]? = some (rO l K a) := by rw [List.getElem?_append_left hml]; exact h
  simp only [ZWP, F_read_parts, wE_fun, B_read_parts, S_read_parts_1, S_read_parts_2, C_read_parts_2, l_c59]
  refine wE_meth ?_
  simp only [ZWP]
  refine ⟨self_rd hg1 rfl, ?_⟩
  cases ps with
  | nil =>
    obtain ⟨g1, g2⟩ := drop_get (show K.drop a = [59] :: r from hd)
    simp only [ZWP, token_ok hg1 g1, sg_tok 59 kind_59, ceq_tok tx_sign tx_59 tx_sign tx_59, S_read_parts_7]
    rw [if_neg (fun z => z trivial)]
    have hG2 : G.set m (rO l K (a + (partsK b []).length)) = G := set_same h
    rw [hG2] at hG ⊢
    rw [fin_ref (t := []) rfl rfl hG]
    exact ⟨rfl, rfl⟩
  | cons p ps =>
    have hp1 := hp p (List.mem_cons_self ..)
    obtain ⟨t, r1, e1, ek, et⟩ := piece_first hp1.1 hp1.2
    rw [partsK_rest] at hd
    obtain ⟨g1, g2⟩ := drop_get (show K.drop a = t :: (r1 ++ restK b r ps) from by rw [hd, e1]; rfl)
    have hkt : TxtOk (kindM t) := by rcases ek with e | e <;> rw [e]; exact tx_name; exact tx_number
    have hne : ¬ (kindM t = lit "sign" ∧ t = [59]) := fun z => by
      rcases ek with e | e <;> rw [e] at z
      · exact sign_ne.1 z.1
      · exact sign_ne.2 z.1
    simp only [ZWP, token_ok hg1 g1, tokD, ceq_tok hkt et tx_sign tx_59, hne, decide_false, S_read_parts_3, read_part_ok hg1 hd hp1.1 hp1.2, S_read_parts_4]
    rw [hsl, hgl]
    simp only [ZWP, hsg]
    refine ⟨lt_line (by decide), ?_⟩
    refine wp_while (fun k σ G' => ∃ (acc : List D) (a' : Nat) (qs : List (Nat × Int)), σ = [some (.ref m), some (.ref G.length)] ∧ G' = G.set m (rO l K a') ++ [.lst acc] ∧ acc ++ partsD b (a' + 1) qs = partsD b a (p :: ps) ∧ K.drop a' = restK b r qs ∧ (∀ q ∈ qs, q ∈ ps) ∧ a' + (restK b [] qs).length = a + (partsK b (p :: ps)).length + 1 ∧ k = qs.length) fuel ps.length _ _ (by unfold fuel; simp at hf; omega) ⟨[partD b a p], a + (pieceK b p).length, ps, rfl, rfl, rfl, ?_, fun q hq => hq, ?_, rfl⟩ ?_
    · rw [← List.drop_drop, hd, List.drop_left]
    · have := congrArg List.length (partsK_rest b [] p ps)
      simp only [List.length_append, List.length_cons, List.length_nil] at this ⊢
      omega
    · rintro k σ G' ⟨acc, a', qs, rfl, rfl, hacc, hd', hqs, hpos, rfl⟩
      have hal : acc.length + qs.length = ps.length + 1 := by
        have := congrArg List.length hacc
        rw [List.length_append, partsD_len, partsD_len] at this
        exact this
      have hself := self_rd (hgm (rO l K a') acc) (f := "token") rfl
      cases qs with
      | nil =>
        obtain ⟨g3, g4⟩ := drop_get (show K.drop a' = [59] :: r from hd')
        have hpos' : a' = a + (partsK b (p :: ps)).length := by
          have : (restK b [] ([] : List (Nat × Int))).length = 1 := rfl
          omega
        subst hpos'
        have hacc' : acc = partsD b a (p :: ps) := by rw [← hacc]; simp [partsD]
        subst hacc'
        have hb : ∀ P, wS (S_read_parts_7 [some (.ref m), some (.ref G.length)] (G.set m (rO l K (a + (partsK b (p :: ps)).length)) ++ [.lst (partsD b a (p :: ps))])) P = P.rt (.ref G.length) (G.set m (rO l K (a + (partsK b (p :: ps)).length)) ++ [.lst (partsD b a (p :: ps))]) := fun P => by simp only [ZWP, S_read_parts_7]
        have hend : Dl.wE (Dl.finish subD G (.ref G.length) (G.set m (rO l K (a + (partsK b (p :: ps)).length)) ++ [.lst (partsD b a (p :: ps))]) RE.ok) never fun a_1 G' => a_1 = D.lst (partsD b a (p :: ps)) ∧ G' = G.set m (rO l K (a + (partsK b (p :: ps)).length)) := by
          rw [fin_ref (t := []) (nrDs_partsD b _ _) (by simp) hG]
          exact ⟨rfl, rfl⟩
        simp only [ZWP, W_read_parts_4, hgl, l_c44]
        split
        · refine wE_meth ?_
          simp only [ZWP]
          refine ⟨hself, ?_⟩
          simp only [ZWP, token_ok (hgm _ _) g3, sg_tok 59 kind_59, ceq_tok tx_sign tx_59 tx_sign tx_44, hb]
          rw [if_neg (by simp)]
          exact hend
        · rw [hb]
          exact hend
      | cons q qs =>
        obtain ⟨g3, g4⟩ := drop_get (show K.drop a' = [44] :: (partsK b (q :: qs) ++ [59] :: r) from hd')
        rw [partsK_rest] at g4
        have hq1 := hp q (List.mem_cons_of_mem _ (hqs q (List.mem_cons_self ..)))
        have hlt : acc.length < 4 := by simp at hal hf; omega
        simp only [ZWP, W_read_parts_4, hgl, l_c44]
        rw [if_pos (by omega)]
        refine wE_meth ?_
        simp only [ZWP]
        refine ⟨hself, ?_⟩
        have hk44 := kind_44
        have htk := fun L => take_token_ok (hgm (rO l K a') L) g3 (by rw [kind_44]; exact tx_sign) tx_44
        have hrp := fun L => read_part_ok (hgm (rO l K (a' + 1)) L) g4 hq1.1 hq1.2
        rw [kind_44] at htk
        simp only [ZWP, token_ok (hgm _ _) g3, sg_tok 44 kind_44, ceq_tok tx_sign tx_44 tx_sign tx_44, L_read_parts_4, S_read_parts_5, l_c44]
        refine wE_meth ?_
        simp only [ZWP]
        refine ⟨self_rd (hgm (rO l K a') acc) rfl, ?_⟩
        simp only [ZWP, htk, hsl2, S_read_parts_6, hrp, hgl, hsg]
        refine ⟨lt_line (by omega), qs.length, by omega, acc ++ [partD b (a' + 1) q], a' + 1 + (pieceK b q).length, qs, rfl, ?_, ?_, fun x hx => hqs x (List.mem_cons_of_mem _ hx), ?_, rfl⟩
        · rw [List.append_assoc]; exact hacc
        · rw [← List.drop_drop, g4, List.drop_left]
        · have e3 := congrArg List.length (partsK_rest b [] q qs)
          have e4 : (restK b [] (q :: qs)).length = (partsK b (q :: qs) ++ [59] :: []).length + 1 := rfl
          simp only [List.length_append, List.length_cons, List.length_nil] at e3 e4 hpos ⊢
          omega

/-! ## a row -/
theorem wE_make {c : Str} {F : DF} {a : DA} {σ : PEnv} {G : GS} {E : EK} {Q : D → GS → Prop} (h : wE (a σ G) E fun xs G1 => wE (F (.ref G1.length :: xs) (G1 ++ [.ins c []])) never fun d G2 => d = .non ∧ Q (.ref G1.length) G2) : wE (eMake c F a σ G) E Q := by
  unfold eMake
  rw [wE_bind]
  refine wE_mono h (fun xs G1 h => ?_) fun _ _ _ z => z
  obtain ⟨d, G2, e, rfl, hq⟩ := wE_get h
  rw [e]
  exact hq
theorem last_get (G : GS) (x : Ob) : (G ++ [x])[G.length]? = some x := by rw [List.getElem?_append_right (Nat.le_refl _), Nat.sub_self]; rfl
theorem last_set (G : GS) (x y : Ob) : (G ++ [x]).set G.length y = G ++ [y] := by rw [List.set_append_right _ _ (Nat.le_refl _), Nat.sub_self]; rfl
theorem wS_fldD {al : List Str} {f : Str} {o e : DE} {σ : PEnv} {G : GS} {P : Po} : wS (sFldD al f o e σ G) P = wE (e σ G) (fun c fs G1 => P.ex c fs σ G1) fun y G1 => wE (o σ G1) (fun c fs G2 => P.ex c fs σ G2) fun x G2 => wS (setF al f x y σ G2) P := by
  unfold sFldD
  rw [wS_bind]
  refine wE_ext fun y G1 => ?_
  rw [wS_bind]
theorem init_ok {G : GS} {l : Int} {K : List (List Nat)} : F_LineReader____init__ [.ref G.length, .int l, .lst (K.map tokD)] (G ++ [.ins "LineReader" []]) = .ok .non (G ++ [rO l K 0]) := by
  refine wE_toEq ?_
  simp only [ZWP, F_LineReader____init__, wE_fun, B_LineReader____init__, S_LineReader____init___1, S_LineReader____init___2, S_LineReader____init___3, wS_fldD]
  rw [setF_rd (last_get _ _) (by decide), last_set]
  simp only [ZWP, wS_fldD]
  rw [setF_rd (last_get _ _) (by show 1 < 1000; decide), last_set]
  simp only [ZWP, wS_fldD]
  rw [setF_rd (last_get _ _) (by show 2 < 1000; decide), last_set]
  simp only [ZWP]
  rfl
def rowD (b : List Itm) (l : Int) (x : Itm) : D := .tup [.int l, .str x.nm, .lst (partsD b 2 x.ps), .int x.lead, .int x.lot, .int x.good]
theorem nrG_app {A B : GS} (ha : nrG A = true) (hb : nrG B = true) : nrG (A ++ B) = true := by
  induction A with
  | nil => exact hb
  | cons x A ih =>
    rw [nrG_cons, Bool.and_eq_true] at ha
    rw [List.cons_append, nrG_cons, ha.1, ih ha.2]; rfl
theorem nr_rO (l : Int) (K : List (List Nat)) (a : Nat) : nrG [rO l K a] = true := by
  rw [nrG_cons]
  simp [rO, rFs, nrO, nrDs, nrD, nrDs_toks]
  rfl
theorem l_days2 : lit "days" = daysW := rfl
theorem l_yields2 : lit "yields" = yieldsW := rfl
theorem read_row_ok {G : GS} {l : Int} {b : List Itm} {x : Itm} (hG : nrG G = true) (h : LineOk b x) : F_read_row [.int l, .lst ((lineK b x).map tokD)] G = .ok (rowD b l x) G := by
  have n1 := num_s (i := x.lead) (by have := h.lead; omega)
  have n2 := num_s (i := x.lot) (by have := h.lot; omega)
  have n3 := num_s (i := x.good) (by have := h.lot; have := h.good; omega)
  have k1 := kind_name h.nm
  have kd := kind_name daysW_ok
  have ky := kind_name yieldsW_ok
  obtain ⟨K, hK⟩ : ∃ K, K = lineK b x := ⟨_, rfl⟩
  rw [← hK]
  have d0 : K.drop 0 = x.nm :: [58] :: (partsK b x.ps ++ [59] :: strI x.lead :: daysW :: [59] :: strI x.lot :: yieldsW :: [strI x.good]) := by rw [hK]; rfl
  obtain ⟨t0, d1⟩ := drop_get d0
  obtain ⟨t1, d2⟩ := drop_get d1
  have d3 : K.drop (0 + 1 + 1 + (partsK b x.ps).length) = [59] :: strI x.lead :: daysW :: [59] :: strI x.lot :: yieldsW :: [strI x.good] := by rw [← List.drop_drop, d2, List.drop_left]
  obtain ⟨t3, d4⟩ := drop_get d3
  obtain ⟨t4, d5⟩ := drop_get d4
  obtain ⟨t5, d6⟩ := drop_get d5
  obtain ⟨t6, d7⟩ := drop_get d6
  obtain ⟨t7, d8⟩ := drop_get d7
  obtain ⟨t8, d9⟩ := drop_get d8
  obtain ⟨t9, d10⟩ := drop_get d9
  have hKl : K.length = 0 + 1 + 1 + (partsK b x.ps).length + 1 + 1 + 1 + 1 + 1 + 1 + 1 := by
    have := congrArg List.length d10
    have h9 := (List.getElem?_eq_some_iff.mp t9).1
    rw [List.length_drop, List.length_nil] at this
    omega
  have kt : ∀ {a : Nat} {c : Nat}, K[a]? = some [c] → kindM [c] = lit "sign" → TxtOk [c] → F_LineReader__take_token [.ref G.length, .str (lit "sign"), .str [c]] (G ++ [rO l K a]) = .ok .non (G ++ [rO l K (a + 1)]) := fun ht hk hx => by
    have := take_token_ok (last_get G (rO l K _)) ht (by rw [hk]; exact tx_sign) hx
    rw [hk, last_set] at this
    exact this
  have kw : ∀ {a : Nat} {w : List Nat}, K[a]? = some w → NmA w → F_LineReader__take_token [.ref G.length, .str (lit "name"), .str w] (G ++ [rO l K a]) = .ok .non (G ++ [rO l K (a + 1)]) := fun ht hw => by
    have := take_token_ok (last_get G (rO l K _)) ht (by rw [kind_name hw]; exact tx_name) (tx_nm hw)
    rw [kind_name hw, last_set] at this
    exact this
  have kn : ∀ {a : Nat} {i lo hi : Int}, K[a]? = some (strI i) → NumS (strI i) i → lo ≤ i ∧ i ≤ hi → F_LineReader__take_number [.ref G.length, .int lo, .int hi] (G ++ [rO l K a]) = .ok (.int i) (G ++ [rO l K (a + 1)]) := fun ht hs hr => by
    have := take_number_ok (last_get G (rO l K _)) ht hs hr
    rw [last_set] at this
    exact this
  have hnm := take_name_ok (last_get G (rO l K 0)) t0 k1
  rw [last_set] at hnm
  have hps := read_parts_ok (b := b) (r := strI x.lead :: daysW :: [59] :: strI x.lot :: yieldsW :: [strI x.good]) (ps := x.ps) (a := 0 + 1 + 1) (m := G.length) (G := G ++ [rO l K (0 + 1 + 1)]) (l := l) (K := K) (by rw [last_set]; exact nrG_app hG (nr_rO _ _ _)) (last_get _ _) d2 h.few h.ps
  rw [last_set] at hps
  have self : ∀ (a : Nat) (f : Str), ((rFs l K a).lookup f).isNone = true → selfIs "LineReader" f (G ++ [rO l K a]) (.ref G.length) = true := fun a f hf => self_rd (last_get G (rO l K a)) hf
  refine wE_toEq ?_
  simp only [ZWP, F_read_row, wE_fun, B_read_row, S_read_row_1, S_read_row_2, S_read_row_3, S_read_row_4, S_read_row_5, S_read_row_6, S_read_row_7, S_read_row_8, S_read_row_9, S_read_row_10, S_read_row_11, S_read_row_12, S_read_row_13, l_c58, l_c59, l_days2, l_yields2]
  refine wE_make ?_
  simp only [ZWP, init_ok]
  refine wE_meth ?_
  simp only [ZWP]
  refine ⟨self _ _ rfl, ?_⟩
  simp only [ZWP, hnm]
  refine wE_meth ?_
  simp only [ZWP]
  refine ⟨self _ _ rfl, ?_⟩
  simp only [ZWP, kt t1 kind_58 tx_58, hps]
  refine wE_meth ?_
  simp only [ZWP]
  refine ⟨self _ _ rfl, ?_⟩
  simp only [ZWP, kt t3 kind_59 tx_59]
  refine wE_meth ?_
  simp only [ZWP]
  refine ⟨self _ _ rfl, ?_⟩
  simp only [ZWP, kn t4 n1 h.lead]
  refine wE_meth ?_
  simp only [ZWP]
  refine ⟨self _ _ rfl, ?_⟩
  simp only [ZWP, kw t5 daysW_ok]
  refine wE_meth ?_
  simp only [ZWP]
  refine ⟨self _ _ rfl, ?_⟩
  simp only [ZWP, kt t6 kind_59 tx_59]
  refine wE_meth ?_
  simp only [ZWP]
  refine ⟨self _ _ rfl, ?_⟩
  simp only [ZWP, kn t7 n2 h.lot]
  refine wE_meth ?_
  simp only [ZWP]
  refine ⟨self _ _ rfl, ?_⟩
  simp only [ZWP, kw t8 yieldsW_ok]
  refine wE_meth ?_
  simp only [ZWP]
  refine ⟨self _ _ rfl, ?_⟩
  simp only [ZWP, kn t9 n3 h.good]
  refine wE_meth ?_
  simp only [ZWP]
  refine ⟨self _ _ rfl, ?_⟩
  rw [← hKl]
  simp only [ZWP, take_end_ok (last_get _ _)]
  rw [fin_nr (by simp [nrD, nrDs, nrDs_partsD]) rfl hG]
  exact ⟨rfl, rfl⟩

/-! ## the rows -/
theorem lt_no10 : 10 ∉ LT := by decide +kernel
theorem dg_no10 : 10 ∉ DG := by decide +kernel
theorem dw_no10 : 10 ∉ daysW ∧ 10 ∉ yieldsW := by decide +kernel
theorem piece_no10 {b : List Itm} {p : Nat × Int} (hn : NmA (nmOf b p.1)) (hq : 1 ≤ p.2 ∧ p.2 ≤ 20) : 10 ∉ pieceT b p := by
  have h1 : 10 ∉ nmOf b p.1 := fun z => lt_no10 (hn.2.2 _ z)
  have h2 : 10 ∉ strI p.2 := fun z => dg_no10 ((num_s (i := p.2) (by omega)).dg _ z)
  unfold pieceT
  split
  · exact h1
  · simp [h1, h2]
theorem parts_no10 {b : List Itm} : ∀ {ps : List (Nat × Int)}, (∀ p ∈ ps, NmA (nmOf b p.1) ∧ 1 ≤ p.2 ∧ p.2 ≤ 20) → 10 ∉ partsT b ps
  | [], _ => by simp [partsT, joinL, TL.joinL]
  | [p], h => by
    have := h p (List.mem_cons_self ..)
    show 10 ∉ pieceT b p
    exact piece_no10 this.1 this.2
  | p :: q :: ps, h => by
    have h0 := h p (List.mem_cons_self ..)
    have ih := parts_no10 (b := b) (ps := q :: ps) (fun x hx => h x (List.mem_cons_of_mem _ hx))
    have e : partsT b (p :: q :: ps) = pieceT b p ++ (44 :: 32 :: partsT b (q :: ps)) := rfl
    rw [e]
    simp [piece_no10 h0.1 h0.2, ih]
theorem line_no10 {b : List Itm} {x : Itm} (h : LineOk b x) : 10 ∉ lineT b x := by
  have h1 : 10 ∉ x.nm := fun z => lt_no10 (h.nm.2.2 _ z)
  have n1 : 10 ∉ strI x.lead := fun z => dg_no10 ((num_s (i := x.lead) (by have := h.lead; omega)).dg _ z)
  have n2 : 10 ∉ strI x.lot := fun z => dg_no10 ((num_s (i := x.lot) (by have := h.lot; omega)).dg _ z)
  have n3 : 10 ∉ strI x.good := fun z => dg_no10 ((num_s (i := x.good) (by have := h.lot; have := h.good; omega)).dg _ z)
  have hp := parts_no10 h.ps
  unfold lineT
  simp [h1, n1, n2, n3, hp, dw_no10]
theorem join_lines : ∀ ls : List (List Nat), TL.joinL [10] (ls ++ [[]]) = (ls.map fun l => l ++ [10]).flatten
  | [] => rfl
  | [l] => by simp [TL.joinL]
  | l :: m :: r => by
    show l ++ ([10] ++ TL.joinL [10] ((m :: r) ++ [[]])) = _
    rw [join_lines (m :: r)]
    simp
theorem split_text {b : List Itm} (h : ∀ x ∈ b, LineOk b x) : splL (textT b) [10] = (b.map (lineT b)) ++ [[]] := by
  have e : textT b = TL.joinL [10] (b.map (lineT b) ++ [[]]) := by
    rw [join_lines, List.map_map]; rfl
  unfold splL
  rw [e]
  refine TL.spl_join (by simp) fun p hp => ?_
  rcases List.mem_append.mp hp with hp | hp
  · obtain ⟨x, hx, rfl⟩ := List.mem_map.mp hp
    exact line_no10 (h x hx)
  · rw [List.mem_singleton.mp hp]; simp
theorem mSplit_text {b : List Itm} (h : ∀ x ∈ b, LineOk b x) (hl : b.length ≤ 8) {G : GS} : mSplit (.str (textT b)) [.str [10]] G = .ok (.lst ((b.map (lineT b) ++ [[]]).map D.str)) G := by
  have h1 := sum_len (k := 131) (ys := b.map fun x => lineT b x ++ [10]) (fun y hy => by
    obtain ⟨x, hx, rfl⟩ := List.mem_map.mp hy
    have := line_len (h x hx)
    rw [List.length_append]; show _ + 1 ≤ _; omega)
  have h2 : (textT b).length ≤ b.length * 131 := by
    unfold textT
    rw [List.length_flatten]
    rw [List.length_map] at h1
    exact h1
  show (if (!([10] : List Nat).isEmpty && ([10] : List Nat).all (· < 256) && decide ((textT b).length + 2 ≤ maxLine)) = true then _ else _) = _
  rw [if_pos (by
    have : (textT b).length + 2 ≤ maxLine := by unfold maxLine; omega
    simp [this]), split_text h]
def encR (b : List Itm) (p : Itm × Nat) : D := rowD b p.2 p.1
def rowsD (b l : List Itm) : List D := l.zipIdx.map (encR b)
theorem rowsD_snoc (b l : List Itm) (x : Itm) : rowsD b (l ++ [x]) = rowsD b l ++ [rowD b l.length x] := by
  unfold rowsD
  rw [List.zipIdx_append]
  simp [encR]
theorem rowsD_len (b l : List Itm) : (rowsD b l).length = l.length := by simp [rowsD]
theorem nrDs_rowsD (b l : List Itm) : nrDs (rowsD b l) = true := by
  rw [nrDs_all]
  intro d hd
  obtain ⟨p, _, rfl⟩ := List.mem_map.mp hd
  simp [encR, rowD, nrD, nrDs, nrDs_partsD]
theorem cInA_lstrs {G : GS} {l : List (List Nat)} (neg : Bool) (s : List Nat) : cInA neg (.str s) (.lst (l.map D.str)) G = .ok (.bl (xor neg (decide (s ∈ l)))) G := by
  simp only [cInA, cIn, flat, seqOf, lstOf, Option.bind_some, flats_strs, inV_strs]
theorem l_nl2 : lit "\n" = [10] := by decide +kernel
theorem read_rows_ok {G : GS} {n : Nat} {b : List Itm} (hG : nrG G = true) (hb : BillOk n b) (hn : n ≤ 8) (hnm : ∀ x ∈ b, NmA x.nm) (hnd : (b.map Itm.nm).Nodup) : F_read_rows [.str (textT b)] G = .ok (.lst (rowsD b b)) G := by
  have hlen := hb.most
  have hlo : ∀ x ∈ b, LineOk b x := fun x hx => line_ok hb hnm hx
  refine wE_toEq ?_
  simp only [ZWP, F_read_rows, wE_fun, B_read_rows, S_read_rows_1, S_read_rows_2, l_nl2]
  simp only [ZWP, mSplit_text hlo (Nat.le_trans hlen hn), enumA_lst]
  refine wp_for (fun j σ G' => ∃ (o2 o3 o4 o5 o6 : Option D), σ = [some (.str (textT b)), some (.ref G.length), o2, o3, o4, o5, o6] ∧ G' = G ++ [.lst (rowsD b (b.take j))]) ⟨none, none, none, none, none, rfl, rfl⟩ ?_ ?_
  · rintro j d σ A hd ⟨o2, o3, o4, o5, o6, rfl, rfl⟩
    obtain ⟨d0, h0, rfl⟩ := enumD_get hd
    rw [Nat.zero_add]
    have hgl : ∀ L, (G ++ [Ob.lst L])[G.length]? = some (.lst L) := fun L => last_get G _
    by_cases hj : j < b.length
    · have hx : b[j]? = some b[j] := List.getElem?_eq_getElem hj
      obtain ⟨x, ex⟩ : ∃ x, x = b[j] := ⟨_, rfl⟩
      rw [← ex] at hx
      have hxm := List.mem_of_getElem? hx
      have h1 : d0 = .str (lineT b x) := by
        rw [List.getElem?_map, List.getElem?_append_left (by rw [List.length_map]; exact hj), List.getElem?_map, hx] at h0
        exact (Option.some.inj h0).symm
      subst h1
      have hlx := hlo x hxm
      have hll : (lineT b x).length < 100000 := by have := line_len hlx; omega
      have hne : (lineK b x).map tokD ≠ [] := by unfold lineK; simp
      have hnr : nrG (G ++ [.lst (rowsD b (b.take j))]) = true := nrG_app hG (by rw [nrG_cons]; simp [nrO, nrDs_rowsD]; rfl)
      have htl : (b.take j).length = j := by rw [List.length_take]; omega
      have htk : rowsD b (b.take (j + 1)) = rowsD b (b.take j) ++ [rowD b j x] := by
        rw [List.take_succ, hx]
        show rowsD b (b.take j ++ [x]) = _
        rw [rowsD_snoc, htl]
      have hnew : x.nm ∉ ((b.take j).map Itm.nm) := by
        have hs : b.map Itm.nm = (b.take j).map Itm.nm ++ x.nm :: (b.drop (j + 1)).map Itm.nm := by
          have : b = b.take j ++ x :: b.drop (j + 1) := by
            rw [ex, ← List.drop_eq_getElem_cons hj, List.take_append_drop]
          conv => lhs; rw [this]
          simp
        rw [hs] at hnd
        have := (List.nodup_append.mp hnd).2.2
        intro z
        exact this _ z _ (List.mem_cons_self ..) rfl
      simp only [ZWP, L_read_rows_2, S_read_rows_3, tokens_eq hll, toks_line hlx, S_read_rows_4, C_read_rows_4]
      rw [if_pos (by simp [lineK])]
      simp only [ZWP, S_read_rows_5, read_row_ok hnr hlx, S_read_rows_6, C_read_rows_6]
      simp only [ZWP, rowD]
      refine wp_sealA (b.take j).zipIdx (encR b) (fun p => some (.str p.1.nm)) ?_
      simp only [ZWP]
      have hfm : (b.take j).zipIdx.filterMap (fun p => some (D.str p.1.nm)) = ((b.take j).map Itm.nm).map D.str := by
        rw [List.filterMap_eq_map', List.map_map]
        conv => rhs; rw [← List.zipIdx_map_fst 0 (b.take j), List.map_map]
        rfl
      rw [hfm]
      refine ⟨.inr (.inr ⟨_, rfl, hgl _, by rw [List.length_zipIdx, htl]; omega⟩), by rw [List.length_zipIdx, htl]; unfold maxLine; omega, fun p hp acc => ?_, fun p _ y hy => by cases hy; rfl, ?_⟩
      · simp only [ZWP, encR, rowD]
      · have hne8 : ¬ ((j : Int) = 8) := by omega
        have hr8 : (rowsD b (b.take j)).length = j := by rw [rowsD_len, htl]
        simp only [ZWP, cInA_lstrs, hnew, decide_false, S_read_rows_8, C_read_rows_8, hgl, hr8, S_read_rows_10, last_set]
        rw [if_neg hne8]
        exact ⟨lt_line (by omega), _, _, _, _, _, rfl, by rw [htk]; rfl⟩
    · have h1 : d0 = .str [] := by
        have hjl : j = b.length := by
          have := (List.getElem?_eq_some_iff.mp h0).1
          simp at this; omega
        subst hjl
        simp at h0
        exact h0.symm
      subst h1
      have htk : ∀ k, b.length ≤ k → b.take k = b := fun k hk => List.take_of_length_le hk
      simp only [L_read_rows_2, S_read_rows_3, tokens_eq (line := []) (show 0 < 100000 by decide), toks_nil, S_read_rows_4, C_read_rows_4, wE_srtS, wS_match, wS_mnil, wE_notA, wE_newT, wE_key, keyR_2, wE_getT2, wS_setT, setT_R, setTR_dct, bIxK_R, ixTR_dct, bIxK_int, bxA_key, wE_lr2, wE_aStar, seqW_some, wE_zp, zipR_tup, Bool.true_eq_false, Int.natCast_inj, wE_ok, wE_exc, wE_bad, wE_if, wE_ite, if_F, wE_bind, wS_nil, wS_seq, wS_asg, wS_exp, wS_ret, wS_retN, wS_brk, wS_cont, wS_if, wS_aug, wS_asgG, asgW_some, wS_setI, wS_setIA, wS_fldD, wS_raise, wS_par, wS_parR, wS_for, wS_forA, forA_lst, forA_tup, forA_str, getW_some, wE_var, wE_cst, wE_bin, wE_un, wE_andV, wE_orV, wE_notV, wE_ifx, wE_call, wE_app, wE_appK, wE_tup, wE_lst, wE_new, wE_newD, wE_mt, wE_rem, wE_get2, wE_sl, wE_oNone, intW_int, wE_oSome, wE_aNil, wE_aCons, blW_bl, wE_chain, wE_dT, wE_dTA, wE_truth, wE_dAnd, wE_dOr, wE_dNot, wE_dYes, wE_rg1, wE_rg2, wE_iSA, seqA_lst, seqA_tup, wE_en, enumR_lst, wE_enA, enumA_lst, enumA_tup, wE_rvD, revD_tup, revD_lst, wE_dcN, wE_lr1, gN, gT, gsCons, gsNil, CG.d, setsD, wipeD, isLst, isStr, seqOf, lstOf, setIA_R, setR_lst, setR_dic, setL_nat, setK_int, wS_iff, bxA_lst, bxA_tup, bxA_str, bIxA_dic, bIxA_refR, ixR_lst, ixR_dic, ixL_nat, ixL_lit, ixL_0, ixL_1, ixO_some, bAdd, bSub, bNeg, bIadd, bSl_str, bSl_tup, bSl_lst, cLt, cLe, cGt, cGe, cIsN, fLen_lst, fLen_tup, fLen_scr, fLen_str, fLen_ref, lenR_lst, fMax, fMin, fAbs, fInt, fStr, fTuple, fList, fAny, fAll, lstBls, fSum, lstInts, mAppend, truthA, truV, cEq_int, cEq_str, cEq_bl, Option.bind_some, intsD_ints, blsD_bls, atI_0, atI_1, atI_lit, atI_natC, ixN_0, ixN_1, ixN_nat, List.map_cons, List.map_nil, List.length_cons, List.length_nil, List.length_map, List.cons_append, List.nil_append, List.replicate, List.getElem?_cons_zero, List.getElem?_cons_succ, List.set_cons_zero, List.set_cons_succ, List.length_set, Option.isSome_some, Nat.sub_self, Nat.reduceAdd, Nat.reduceSub, Nat.reduceLT, if_true, if_false, ite_true, ite_false, reduceIte, Bool.false_eq_true, decide_eq_true_eq, Bool.not_true, Bool.not_false, Nat.zero_add, true_and, and_true, false_and, and_false, and_self, Bool.xor_false, Bool.false_xor, Bool.true_xor, Bool.xor_true, get_app, get_app0, set_app, set_app0, List.append_assoc, List.length_append, le_0, le_1, le_2, le_3, le_4, le_5, le_6, le_7, le_8, Bool.not_eq_true', decide_eq_false_iff_not, fin_same]
      rw [if_neg (by simp)]
      have hjl : b.length ≤ j := by omega
      exact ⟨_, _, _, _, _, rfl, by rw [htk j hjl, htk (j + 1) (by omega)]⟩
  · rintro σ A ⟨o2, o3, o4, o5, o6, rfl, rfl⟩
    rw [List.take_of_length_le (by rw [enumD_len]; simp)]
    simp only [ZWP, S_read_rows_11]
    rw [fin_new (nrDs_rowsD b b)]
    exact ⟨rfl, rfl⟩

/-! ## what lies within an item -/
def natI (w : List Nat) : List Int := w.map fun k : Nat => ((k : Nat) : Int)
def cnt (n : Nat) (w : List Nat) : Nat := (List.range n).countP fun k => decide (k ∉ w)
theorem countP_lt {p q : Nat → Bool} {j : Nat} : ∀ {l : List Nat}, (∀ k, q k = true → p k = true) → j ∈ l → p j = true → q j = false → l.countP q < l.countP p
  | [], _, h, _, _ => by cases h
  | k :: l, hi, hj, h1, h2 => by
    rw [List.countP_cons, List.countP_cons]
    have hle : l.countP q ≤ l.countP p := List.countP_mono_left fun x _ => hi x
    rcases List.mem_cons.mp hj with e | hj
    · subst e
      rw [h1, h2]
      simp; omega
    · have := countP_lt (l := l) hi hj h1 h2
      have h3 : (if q k = true then 1 else 0) ≤ (if p k = true then 1 else 0) := by
        by_cases hq : q k = true
        · rw [if_pos hq, if_pos (hi k hq)]; exact Nat.le_refl _
        · rw [if_neg hq]; exact Nat.zero_le _
      omega
theorem cnt_lt {n x : Nat} {w : List Nat} (hx : x < n) (hw : x ∉ w) : cnt n (w ++ [x]) < cnt n w := by
  unfold cnt
  refine countP_lt (j := x) (fun k h => ?_) (List.mem_range.mpr hx) (by simp [hw]) (by simp)
  simp at h ⊢
  exact h.1
theorem cnt_nil (n : Nat) : cnt n [] = n := by simp [cnt]
theorem mPop_ref {G : GS} {n : Nat} {ds : List D} {d : D} (h : G[n]? = some (.lst (ds ++ [d]))) : mPop (.ref n) [] G = .ok d (G.set n (.lst ds)) := by
  have e : (ds ++ [d])[(ds ++ [d]).length - 1]? = some d := by rw [List.length_append, List.length_singleton, Nat.add_sub_cancel, List.getElem?_append_right (Nat.le_refl _), Nat.sub_self]; rfl
  simp only [mPop, h, e, List.dropLast_concat]
theorem mExt_ref {G : GS} {n : Nat} {ds es : List D} (h : G[n]? = some (.lst ds)) (hl : ds.length + es.length ≤ maxLine) : mExtend (.ref n) [.lst es] G = .ok .non (G.set n (.lst (ds ++ es))) := by
  simp only [mExtend, h, lstOf, if_pos hl]
theorem cInA_intr {G : GS} {n : Nat} {w : List Nat} (h : G[n]? = some (.lst ((natI w).map D.int))) (neg : Bool) (x : Nat) : cInA neg (.int (x : Int)) (.ref n) G = .ok (.bl (xor neg (decide (x ∈ w)))) G := by
  rw [cInA_ints h]
  have e : ((x : Int) ∈ natI w) ↔ x ∈ w := by
    unfold natI
    rw [List.mem_map]
    exact ⟨fun ⟨a, h1, h2⟩ => by have : a = x := by omega
                                 rwa [← this], fun h => ⟨x, h, rfl⟩⟩
  simp only [e]
theorem two_get1 (G : GS) (x y : Ob) : (G ++ [x, y])[G.length]? = some x := by rw [List.getElem?_append_right (Nat.le_refl _), Nat.sub_self]; rfl
theorem two_get2 (G : GS) (x y : Ob) : (G ++ [x, y])[G.length + 1]? = some y := by rw [List.getElem?_append_right (by omega), Nat.add_sub_cancel_left]; rfl
theorem two_set1 (G : GS) (x y z : Ob) : (G ++ [x, y]).set G.length z = G ++ [z, y] := by rw [List.set_append_right _ _ (Nat.le_refl _), Nat.sub_self]; rfl
theorem two_set2 (G : GS) (x y z : Ob) : (G ++ [x, y]).set (G.length + 1) z = G ++ [x, z] := by rw [List.set_append_right _ _ (by omega), Nat.add_sub_cancel_left]; rfl
theorem ps_ints (x : Itm) : x.ps.filterMap (fun p => some (D.int (p.1 : Int))) = (natI (x.ps.map Prod.fst)).map D.int := by
  rw [List.filterMap_eq_map']
  simp [natI]
theorem itm_at {b : List Itm} {k : Nat} (hk : k < b.length) : (b.map Itm.d)[k]? = some (b[k]).d := by rw [List.getElem?_map, List.getElem?_eq_getElem hk]; rfl
theorem natI_snoc (q : List Nat) (x : Nat) : (natI (q ++ [x])).map D.int = (natI q).map D.int ++ [.int (x : Int)] := by simp [natI]
theorem natI_app (q p : List Nat) : (natI (q ++ p)).map D.int = (natI q).map D.int ++ (natI p).map D.int := by simp [natI]
theorem natI_len (q : List Nat) : (natI q).length = q.length := by simp [natI]
theorem nil_or_snoc : ∀ q : List Nat, q = [] ∨ ∃ p x, q = p ++ [x]
  | [] => .inl rfl
  | a :: l => by
    rcases nil_or_snoc l with h | ⟨p, x, h⟩
    · exact .inr ⟨[], a, by rw [h]; rfl⟩
    · exact .inr ⟨a :: p, x, by rw [h]; rfl⟩
theorem within_ok {n : Nat} {b : List Itm} (hb : BillOk n b) (hn : n ≤ 8) {i : Nat} (hi : i < b.length) {G : GS} :
    wE (F_parts_within [billD b, .int i] G) never fun d G' => G' = G ∧ ∃ w : List Nat, d = .lst ((natI w).map D.int) ∧ i ∉ w := by
  obtain ⟨r, hr⟩ := hb.rank
  have hlen := hb.most
  have hstep : ∀ k, (hk : k < b.length) → ∀ p ∈ (b[k]).ps, p.1 < b.length ∧ r p.1 < r k := fun k hk p hp =>
    ⟨((hb.itm _ (List.getElem_mem hk)).ps p hp).1, hr k _ (List.getElem?_eq_getElem hk) p hp⟩
  have hfew : ∀ k, (hk : k < b.length) → (b[k]).ps.length ≤ 4 := fun k hk => (hb.itm _ (List.getElem_mem hk)).few
  simp only [ZWP, F_parts_within, wE_fun, B_parts_within, S_parts_within_1, S_parts_within_2]
  refine wp_openA (b[i]).ps prD (fun p => some (.int (p.1 : Int))) ?_
  simp only [ZWP, ixA_bill, ixL_int (Int.natCast_nonneg i) (itm_at hi)]
  simp only [ZWP, Itm.d]
  refine ⟨.inr trivial, by have := hfew i hi; unfold maxLine; omega, fun p hp acc => by simp only [ZWP, prD], ?_⟩
  rw [ps_ints]
  simp only [ZWP, S_parts_within_3, List.length_append, List.length_singleton, List.cons_append, List.nil_append]
  refine wp_while (fun m σ G' => ∃ (w q : List Nat) (o4 o5 : Option D), σ = [some (billD b), some (.int (i : Int)), some (.ref G.length), some (.ref (G.length + 1)), o4, o5] ∧ G' = G ++ [.lst ((natI w).map D.int), .lst ((natI q).map D.int)] ∧ (∀ k ∈ w ++ q, k < b.length ∧ r k < r i) ∧ (w.length + cnt b.length w ≤ b.length ∧ q.length + 5 * cnt b.length w ≤ 44) ∧ m = q.length + 5 * cnt b.length w) fuel ((b[i]).ps.length + 5 * b.length) _ _ (by have := hfew i hi; unfold fuel; omega) ⟨[], (b[i]).ps.map Prod.fst, none, none, rfl, rfl, fun k hk => ?_, ⟨by rw [cnt_nil]; simp, by rw [cnt_nil, List.length_map]; have := hfew i hi; omega⟩, by rw [cnt_nil]; simp⟩ ?_
  · obtain ⟨p, hp, rfl⟩ := List.mem_map.mp (show k ∈ (b[i]).ps.map Prod.fst by simpa using hk)
    exact hstep i hi p hp
  rintro m σ G' ⟨w, q, o4, o5, rfl, rfl, hk, ⟨hc, hc2⟩, rfl⟩
  simp only [ZWP, W_parts_within_3, two_get2]
  rcases nil_or_snoc q with rfl | ⟨q, x, rfl⟩
  · rw [if_neg (by simp [natI])]
    simp only [ZWP, S_parts_within_8]
    rw [fin_new (nrDs_intl _)]
    exact ⟨rfl, w, rfl, fun z => Nat.lt_irrefl _ (hk i (List.mem_append_left _ z)).2⟩
  · have hx := hk x (List.mem_append_right _ (by simp))
    rw [if_pos (by rw [natI_snoc]; simp)]
    have hpop : mPop (.ref (G.length + 1)) [] (G ++ [.lst ((natI w).map D.int), .lst ((natI (q ++ [x])).map D.int)]) = .ok (.int (x : Int)) (G ++ [.lst ((natI w).map D.int), .lst ((natI q).map D.int)]) := by
      rw [natI_snoc, mPop_ref (two_get2 _ _ _), two_set2]
    have hin : ∀ L, cInA true (.int (x : Int)) (.ref G.length) (G ++ [.lst ((natI w).map D.int), .lst L]) = .ok (.bl (xor true (decide (x ∈ w)))) (G ++ [.lst ((natI w).map D.int), .lst L]) := fun L => cInA_intr (two_get1 _ _ _) _ _
    have hcle : cnt b.length w ≤ b.length := by omega
    simp only [ZWP, L_parts_within_3, S_parts_within_4, hpop, S_parts_within_5, C_parts_within_5, hin]
    by_cases hw : x ∈ w
    · simp only [ZWP, hw, decide_true]
      exact ⟨q.length + 5 * cnt b.length w, by simp, w, q, o4, some (.int x), rfl, rfl, fun k h => hk k (by simp at h ⊢; rcases h with h | h; exact .inl h; exact .inr (.inl h)), ⟨hc, by rw [List.length_append] at hc2; omega⟩, rfl⟩
    · simp only [ZWP, hw, decide_false, S_parts_within_6, two_get1, two_set1, natI_len, List.length_map, S_parts_within_7]
      refine ⟨by unfold maxLine; omega, ?_⟩
      refine wp_sealA (b[x]'hx.1).ps prD (fun p => some (.int (p.1 : Int))) ?_
      simp only [ZWP, ixA_bill, ixL_int (Int.natCast_nonneg x) (itm_at hx.1)]
      simp only [ZWP, Itm.d]
      have hcl := cnt_lt hx.1 hw
      have hf4 := hfew x hx.1
      rw [ps_ints]
      refine ⟨.inr (.inl trivial), by unfold maxLine; omega, fun p hp acc => by simp only [ZWP, prD], fun p _ y hy => by cases hy; rfl, ?_⟩
      have hxl : (q ++ [x]).length = q.length + 1 := by simp
      rw [mExt_ref (two_get2 _ _ _) (by rw [List.length_map, List.length_map, natI_len, natI_len, List.length_map]; rw [List.length_append] at hc2; unfold maxLine; omega), two_set2, ← natI_snoc, ← natI_app]
      simp only [ZWP]
      refine ⟨(q ++ (b[x]'hx.1).ps.map Prod.fst).length + 5 * cnt b.length (w ++ [x]), by rw [List.length_append, List.length_map]; omega, w ++ [x], q ++ (b[x]'hx.1).ps.map Prod.fst, o4, some (.int x), rfl, rfl, fun k h => ?_, ⟨by rw [List.length_append, List.length_singleton]; omega, by rw [List.length_append, List.length_map]; rw [hxl] at hc2; omega⟩, rfl⟩
      simp only [List.mem_append, List.mem_singleton] at h
      rcases h with (h | h) | h | h
      · exact hk k (List.mem_append_left _ h)
      · rw [h]; exact hx
      · exact hk k (List.mem_append_right _ (List.mem_append_left _ h))
      · obtain ⟨p, hp, rfl⟩ := List.mem_map.mp h
        have := hstep x hx.1 p hp
        exact ⟨this.1, Nat.lt_trans this.2 hx.2⟩

/-! ## the bill -/
theorem check_ok {n : Nat} {b : List Itm} (hb : BillOk n b) (hn : n ≤ 8) {G : GS} : F_check_loops [.lst (rowsD b b), billD b] G = .ok .non G := by
  have hlen := hb.most
  refine wE_toEq ?_
  simp only [ZWP, F_check_loops, wE_fun, B_check_loops, S_check_loops_1, enumA_lst]
  refine wp_for (fun j σ G' => ∃ (o2 o3 : Option D), σ = [some (.lst (rowsD b b)), some (billD b), o2, o3] ∧ G' = G) ⟨none, none, rfl, rfl⟩ ?_ ?_
  · rintro j d σ A hd ⟨o2, o3, rfl, rfl⟩
    obtain ⟨d0, h0, rfl⟩ := enumD_get hd
    rw [Nat.zero_add]
    have hj : j < b.length := by
      have := (List.getElem?_eq_some_iff.mp h0).1
      rwa [rowsD_len] at this
    obtain ⟨d, G1, e, rfl, w, rfl, hw⟩ := wE_get (within_ok hb hn hj (G := A))
    simp only [ZWP, L_check_loops_1, S_check_loops_2, C_check_loops_2, e, cInA_lints]
    have hw2 : ¬ ((j : Int) ∈ natI w) := by
      unfold natI
      rw [List.mem_map]
      rintro ⟨a, h1, h2⟩
      exact hw (by have : a = j := by omega
                   rwa [← this])
    simp only [ZWP, hw2, decide_false]
    exact ⟨_, _, rfl⟩
  · rintro σ A ⟨o2, o3, rfl, rfl⟩
    show Dl.wE (Dl.finish subD A D.non A RE.ok) never _
    rw [fin_same rfl]
    exact ⟨rfl, rfl⟩
theorem look_at {k : DK} {d : D} : ∀ {ks : List DK} {ds : List D} {i : Nat}, ks.Nodup → ks[i]? = some k → ds[i]? = some d → lookK k ks ds = some d
  | [], _, _, _, h, _ => by simp at h
  | _ :: _, [], _, _, _, h => by simp at h
  | l :: ks, x :: ds, 0, _, h1, h2 => by
    simp at h1 h2
    simp [lookK, h1, h2]
  | l :: ks, x :: ds, i + 1, hn, h1, h2 => by
    simp only [List.getElem?_cons_succ] at h1 h2
    have hne : ¬ l = k := fun e => (List.nodup_cons.mp hn).1 (e ▸ List.mem_of_getElem? h1)
    simp only [lookK, if_neg hne]
    exact look_at (List.nodup_cons.mp hn).2 h1 h2
def keysN (b : List Itm) : List DK := b.map fun x => Sum.inr x.nm
def valsN (k : Nat) : List Itm → List D
  | [] => []
  | _ :: l => .int (k : Int) :: valsN (k + 1) l
theorem valsN_get : ∀ {l : List Itm} {k i : Nat}, i < l.length → (valsN k l)[i]? = some (.int ((k + i : Nat) : Int))
  | [], _, _, h => by simp at h
  | _ :: l, k, 0, _ => rfl
  | _ :: l, k, i + 1, h => by
    have := valsN_get (l := l) (k := k + 1) (i := i) (by simpa using h)
    show (valsN (k + 1) l)[i]? = _
    rw [this, show k + 1 + i = k + (i + 1) by omega]
def numsD (b : List Itm) : D := .dic (keysN b) (valsN 0 b)
theorem nodup_inr : ∀ {l : List (List Nat)}, l.Nodup → (l.map (Sum.inr : List Nat → DK)).Nodup
  | [], _ => List.nodup_nil
  | x :: l, h => by
    have h := List.nodup_cons.mp h
    rw [List.map_cons, List.nodup_cons]
    refine ⟨fun z => ?_, nodup_inr h.2⟩
    obtain ⟨y, hy, e⟩ := List.mem_map.mp z
    cases e
    exact h.1 hy
theorem keys_nd {b : List Itm} (h : (b.map Itm.nm).Nodup) : (keysN b).Nodup := by
  have e : keysN b = (b.map Itm.nm).map Sum.inr := by unfold keysN; rw [List.map_map]; rfl
  rw [e]
  exact nodup_inr h
theorem look_num {b : List Itm} (h : (b.map Itm.nm).Nodup) {i : Nat} (hi : i < b.length) : lookK (.inr (nmOf b i)) (keysN b) (valsN 0 b) = some (.int (i : Int)) := by
  refine look_at (i := i) (keys_nd h) ?_ (by rw [valsN_get hi, Nat.zero_add])
  unfold keysN nmOf
  rw [List.getElem?_map, List.getElem?_eq_getElem hi]
  rfl
theorem partsD_get {b : List Itm} : ∀ {ps : List (Nat × Int)} {a j : Nat} {d : D}, (partsD b a ps)[j]? = some d → ∃ p a', ps[j]? = some p ∧ d = partD b a' p
  | [], _, _, _, h => by simp [partsD] at h
  | p :: ps, a, 0, d, h => ⟨p, a, rfl, by simpa [partsD] using h.symm⟩
  | p :: ps, a, j + 1, d, h => by
    obtain ⟨q, a', h1, h2⟩ := partsD_get (ps := ps) (j := j) (by simpa [partsD] using h)
    exact ⟨q, a', by simpa using h1, h2⟩
theorem nrDs_prD (ps : List (Nat × Int)) : nrDs (ps.map prD) = true := by
  rw [nrDs_all]
  intro d hd
  obtain ⟨p, _, rfl⟩ := List.mem_map.mp hd
  simp [prD, nrD, nrDs]
theorem numbered_ok {b : List Itm} (h : (b.map Itm.nm).Nodup) {l : Int} {a : Nat} {ps : List (Nat × Int)} (hf : ps.length ≤ 4) (hp : ∀ p ∈ ps, p.1 < b.length) {G : GS} : F_numbered_parts [.int l, .lst (partsD b a ps), numsD b] G = .ok (.tup (ps.map prD)) G := by
  refine wE_toEq ?_
  simp only [ZWP, F_numbered_parts, wE_fun, B_numbered_parts, S_numbered_parts_1, S_numbered_parts_2, forA_lst]
  refine wp_for (fun j σ G' => ∃ (o4 o5 o6 : Option D), σ = [some (.int l), some (.lst (partsD b a ps)), some (numsD b), some (.ref G.length), o4, o5, o6] ∧ G' = G ++ [.lst ((ps.take j).map prD)]) ⟨none, none, none, rfl, rfl⟩ ?_ ?_
  · rintro j d σ A hd ⟨o4, o5, o6, rfl, rfl⟩
    obtain ⟨p, a', hj, rfl⟩ := partsD_get hd
    have hpm := hp p (List.mem_of_getElem? hj)
    have hlk := look_num h hpm
    have hc : ∀ G, cInA true (.str (nmOf b p.1)) (numsD b) G = .ok (.bl false) G := fun G => by
      show (match keyD (.str (nmOf b p.1)) with | some k => RE.ok (D.bl (xor true (lookK k (keysN b) (valsN 0 b)).isSome)) G | none => .bad) = _
      simp only [keyD, hlk]; rfl
    have hg : ∀ G, bIxA (numsD b) (.str (nmOf b p.1)) G = .ok (.int (p.1 : Int)) G := fun G => by
      show dGet (keysN b) (valsN 0 b) (.str (nmOf b p.1)) G = _
      simp only [dGet, keyD, hlk]
    simp only [ZWP, L_numbered_parts_2, S_numbered_parts_3, C_numbered_parts_3, S_numbered_parts_5, partD, hc, hg, last_get, last_set]
    have htl : (ps.take j).length ≤ 4 := by rw [List.length_take]; omega
    refine ⟨by unfold maxLine; omega, _, _, _, rfl, ?_⟩
    rw [List.take_succ, hj]
    simp [prD]
  · rintro σ A ⟨o4, o5, o6, rfl, rfl⟩
    simp only [ZWP, S_numbered_parts_6, last_get]
    rw [List.take_of_length_le (by rw [partsD_len]; exact Nat.le_refl _)]
    rw [fin_val (by simp only [nrD, nrDs_prD])]
    exact ⟨rfl, rfl⟩
theorem fin_dic {β : Type} {G : GS} {ks : List DK} {vs : List D} {k : D → GS → RE β} (h : nrDs vs = true) : Dl.finish subD G (.ref G.length) (G ++ [.dic ks vs]) k = k (.dic ks vs) G := by
  unfold Dl.finish
  have e : ¬ (G ++ [Ob.dic ks vs]).length = G.length := by rw [List.length_append, List.length_cons]; omega
  have e2 : (G ++ [Ob.dic ks vs]).take G.length = G := List.take_left
  have e3 : (G ++ [Ob.dic ks vs])[G.length]? = some (.dic ks vs) := by simp
  rw [if_neg e, e2, if_pos (by rw [beqG_refl, Bool.true_or])]
  have e4 : subD (sealR 6 G.length (G ++ [Ob.dic ks vs])) (.ref G.length) = some (.dic ks vs) := by
    simp only [subD, sealR, Nat.lt_irrefl, if_false, e3, subDs_nr h, Option.map_some]
  rw [e4]
theorem nrDs_valsN : ∀ (l : List Itm) (k : Nat), nrDs (valsN k l) = true
  | [], _ => rfl
  | _ :: l, k => by simp only [valsN, nrDs, nrD, nrDs_valsN l, Bool.and_self]
theorem any_no {k : DK} {ks : List DK} (h : k ∉ ks) : ¬ (ks.any fun l => decide (l = k)) = true := by
  rw [List.any_eq_true]
  rintro ⟨l, h1, h2⟩
  exact h (of_decide_eq_true h2 ▸ h1)
theorem valsN_app : ∀ (l m : List Itm) (k : Nat), valsN k (l ++ m) = valsN k l ++ valsN (k + l.length) m
  | [], m, k => rfl
  | x :: l, m, k => by
    show D.int (k : Int) :: valsN (k + 1) (l ++ m) = _
    rw [valsN_app l m (k + 1), show k + 1 + l.length = k + (l.length + 1) by omega]
    rfl
theorem dcL_nums {b : List Itm} {G : GS} {u v : Option D} : ∀ (l pre : List Itm), ((pre ++ l).map Itm.nm).Nodup → (pre ++ l).length ≤ 8 →
    dcL G.length (CG.tup [3, 4]).d dYes (eBin bIxA (eVar 4) (eCst (.int 1))) (eVar 3) [u, v, none, none, none, none, none, none, none, none, none, none] (enumD pre.length ((l.zipIdx pre.length).map (encR b))) (G ++ [.dic (keysN pre) (valsN 0 pre)]) = .ok (.ref G.length) (G ++ [.dic (keysN (pre ++ l)) (valsN 0 (pre ++ l))])
  | [], pre, _, _ => by rw [List.append_nil]; rfl
  | x :: l, pre, hn, hl => by
    have e : pre ++ x :: l = (pre ++ [x]) ++ l := by simp
    rw [e] at hn hl ⊢
    have ih := dcL_nums (b := b) (G := G) (u := u) (v := v) l (pre ++ [x]) hn hl
    have hnk : Sum.inr x.nm ∉ keysN pre := by
      intro z
      unfold keysN at z
      obtain ⟨y, hy, ey⟩ := List.mem_map.mp z
      have ey : y.nm = x.nm := Sum.inr.inj ey
      rw [List.map_append, List.map_append] at hn
      have := (List.nodup_append.mp (List.nodup_append.mp hn).1).2.2
      exact this _ (List.mem_map.mpr ⟨y, hy, rfl⟩) _ (List.mem_cons_self ..) ey
    have hkl : (keysN pre).length < maxLine := by
      simp only [List.length_append] at hl
      unfold keysN maxLine; rw [List.length_map]; omega
    have hpl : (pre ++ [x]).length = pre.length + 1 := by simp
    have hput : putKs (Sum.inr x.nm) (.int (pre.length : Int)) (keysN pre) (valsN 0 pre) = (keysN (pre ++ [x]), valsN 0 (pre ++ [x])) := by
      unfold putKs
      rw [if_neg (any_no hnk), valsN_app, Nat.zero_add]
      unfold keysN
      rw [List.map_append]
      rfl
    rw [hpl] at ih
    rw [← ih, List.zipIdx_cons, List.map_cons]
    show dcL G.length (CG.tup [3, 4]).d dYes (eBin bIxA (eVar 4) (eCst (.int 1))) (eVar 3) [u, v, none, none, none, none, none, none, none, none, none, none] (.tup [.int (pre.length : Int), rowD b (pre.length : Nat) x] :: enumD (pre.length + 1) ((l.zipIdx (pre.length + 1)).map (encR b))) (G ++ [.dic (keysN pre) (valsN 0 pre)]) = _
    have step : ∀ ds, dcL G.length (CG.tup [3, 4]).d dYes (eBin bIxA (eVar 4) (eCst (.int 1))) (eVar 3) [u, v, none, none, none, none, none, none, none, none, none, none] (.tup [.int (pre.length : Int), rowD b (pre.length : Nat) x] :: ds) (G ++ [.dic (keysN pre) (valsN 0 pre)]) =
        (match (G ++ [Ob.dic (keysN pre) (valsN 0 pre)])[G.length]?, keyD (.str x.nm) with
        | some (.dic ks xs), some k => if ks.length < maxLine then dcL G.length (CG.tup [3, 4]).d dYes (eBin bIxA (eVar 4) (eCst (.int 1))) (eVar 3) [u, v, none, none, none, none, none, none, none, none, none, none] ds ((G ++ [Ob.dic (keysN pre) (valsN 0 pre)]).set G.length (.dic (putKs k (.int (pre.length : Int)) ks xs).1 (putKs k (.int (pre.length : Int)) ks xs).2)) else .bad
        | _, _ => .bad) := fun ds => rfl
    rw [step, last_get]
    simp only [keyD, if_pos hkl, hput, last_set]
theorem read_bill_ok {G : GS} {n : Nat} {b : List Itm} (hG : nrG G = true) (hb : BillOk n b) (hn : n ≤ 8) (hnm : ∀ x ∈ b, NmA x.nm) (hnd : (b.map Itm.nm).Nodup) : F_read_bill [.str (textT b)] G = .ok (billD b) G := by
  have hlen := hb.most
  refine wE_toEq ?_
  have hrr := fun G hG => read_rows_ok (G := G) hG hb hn hnm hnd
  simp only [ZWP, F_read_bill, wE_fun, B_read_bill, S_read_bill_1, S_read_bill_2, hrr G hG]
  simp only [ZWP, enumA_lst, wE_dcN, wE_seal]
  have hdc := dcL_nums (b := b) (G := G) (u := some (.str (textT b))) (v := some (.lst (rowsD b b))) b [] (by simpa using hnd) (by simp; omega)
  rw [show enumD 0 (rowsD b b) = enumD ([] : List Itm).length ((b.zipIdx ([] : List Itm).length).map (encR b)) from rfl, show (Ob.dic [] [] : Ob) = .dic (keysN []) (valsN 0 []) from rfl, hdc]
  simp only [ZWP, List.nil_append]
  rw [fin_dic (nrDs_valsN _ _)]
  simp only [ZWP, S_read_bill_3, S_read_bill_4, S_read_bill_5, check_ok hb hn]
  refine wp_sealA b.zipIdx (encR b) (fun p => some p.1.d) ?_
  simp only [ZWP]
  have hfm : b.zipIdx.filterMap (fun p => some p.1.d) = b.map Itm.d := by
    rw [List.filterMap_eq_map']
    conv => rhs; rw [← List.zipIdx_map_fst 0 b, List.map_map]
    rfl
  have hbd : D.tup (b.map Itm.d) = billD b := rfl
  rw [hfm, hbd]
  have hzm : ∀ p ∈ b.zipIdx, p.1 ∈ b := fun p hp => by
    rw [← List.zipIdx_map_fst 0 b]
    exact List.mem_map.mpr ⟨p, hp, rfl⟩
  refine ⟨.inl rfl, by rw [List.length_zipIdx]; unfold maxLine; omega, fun p hp acc => ?_, fun p _ y hy => ?_, ?_⟩
  · have hi := hb.itm _ (hzm p hp)
    have hnp := fun G => numbered_ok (b := b) hnd (l := (p.2 : Int)) (a := 2) (ps := p.1.ps) hi.few (fun q hq => (hi.ps q hq).1) (G := G)
    unfold numsD at hnp
    simp only [ZWP, encR, rowD, hnp, Itm.d]
  · cases hy
    simp only [Itm.d, nrD, nrDs, nrDs_prD, Bool.and_self]
  · simp only [ZWP, check_ok hb hn]

/-! ## _law_same of a thing with itself -/
mutual
def sameOk : Nat → D → Bool
  | 0, _ => false
  | _ + 1, .non => true
  | _ + 1, .bl _ => true
  | _ + 1, .int _ => true
  | _ + 1, .str _ => true
  | k + 1, .tup ds => sameOks k ds && decide (ds.length < 1000000)
  | k + 1, .lst ds => sameOks k ds && decide (ds.length < 1000000)
  | _, _ => false
def sameOks : Nat → List D → Bool
  | _, [] => true
  | k, d :: ds => sameOk k d && sameOks k ds
end
theorem sameOks_all {k : Nat} : ∀ {ds : List D}, sameOks k ds = true ↔ ∀ d ∈ ds, sameOk k d = true
  | [] => by simp [sameOks]
  | d :: ds => by simp [sameOks, sameOks_all (ds := ds)]
theorem same_self : ∀ (k : Nat) (d : D) (G : GS), sameOk k d = true → F__law_same k [d, d] G = .ok (.bl true) G
  | 0, d, G, h => by simp [sameOk] at h
  | k + 1, d, G, h => by
    cases d with
    | non => exact same_non
    | bl b => exact same_bl
    | int i => exact same_int
    | str s => exact same_str
    | tup ds =>
      simp only [sameOk, Bool.and_eq_true, decide_eq_true_eq] at h
      refine same_seq (k := k) (es := ds) (fs := ds) (t := "tuple") rfl rfl rfl rfl rfl (.inr rfl) h.2 fun j u v hu hv => ?_
      rw [hu] at hv
      cases hv
      exact same_self k u G (sameOks_all.mp h.1 u (List.mem_of_getElem? hu))
    | lst ds =>
      simp only [sameOk, Bool.and_eq_true, decide_eq_true_eq] at h
      refine same_seq (k := k) (es := ds) (fs := ds) (t := "list") rfl rfl rfl rfl rfl (.inl rfl) h.2 fun j u v hu hv => ?_
      rw [hu] at hv
      cases hv
      exact same_self k u G (sameOks_all.mp h.1 u (List.mem_of_getElem? hu))
    | dic _ _ => simp [sameOk] at h
    | exn _ _ _ _ => simp [sameOk] at h
    | ref _ => simp [sameOk] at h
    | scr _ => simp [sameOk] at h
    | key _ => simp [sameOk] at h
/-- a list that may be changed against one that stands still -/
theorem same_ref {k n : Nat} {ds : List D} {G : GS} (hn : G[n]? = some (.lst ds)) (h : sameOk (k + 1) (.lst ds) = true) : F__law_same (k + 1) [.lst ds, .ref n] G = .ok (.bl true) G := by
  simp only [sameOk, Bool.and_eq_true, decide_eq_true_eq] at h
  refine same_seq (k := k) (es := ds) (fs := ds) (t := "list") rfl (by simp [seqOf, lstOf, hn]) rfl rfl (by simp [tyD, hn]) (.inl rfl) h.2 fun j u v hu hv => ?_
  rw [hu] at hv
  cases hv
  exact same_self k u G (sameOks_all.mp h.1 u (List.mem_of_getElem? hu))
/-! ## the law -/
theorem same_bill {n : Nat} {b : List Itm} (hb : BillOk n b) (hn : n ≤ 8) : sameOk 5 (billD b) = true := by
  have hlen := hb.most
  simp only [billD, sameOk, Bool.and_eq_true, decide_eq_true_eq, List.length_map]
  refine ⟨sameOks_all.mpr fun d hd => ?_, by omega⟩
  obtain ⟨x, hx, rfl⟩ := List.mem_map.mp hd
  have hf := (hb.itm x hx).few
  have h1 : sameOks 2 (x.ps.map prD) = true := by
    refine sameOks_all.mpr fun d hd => ?_
    obtain ⟨p, _, rfl⟩ := List.mem_map.mp hd
    simp [prD, sameOk, sameOks]
  simp only [Itm.d, sameOk, sameOks, h1, List.length_map, Bool.and_eq_true, decide_eq_true_eq, List.length_cons, List.length_nil, true_and, and_true]
  exact ⟨by omega, by omega⟩
theorem l_empty : lit "" = [] := by decide +kernel
theorem holds (ns : List Int) (h : ns.length ≤ 63) : ∃ G, F_law [.scr ns] [] = .ok (.bl true) G := by
  suffices hw : wE (F_law [.scr ns] []) never fun d _ => d = .bl true by
    obtain ⟨d, G, e, rfl⟩ := wE_get hw
    exact ⟨G, e⟩
  obtain ⟨ds, e0, hl⟩ := digits_eq (ns := ns) (G := [])
  simp only [ZWP, F_law, wE_fun, B_law, S_law_1, e0]
  have hbx : ([.lst [.lst (ds.map D.int), .int 0]] : GS) = box ds 0 :: [] := rfl
  have hw8 := bill_wp (ds := ds) (a := 0) (m := 8) (T := []) (by decide) (by decide) rfl
  rw [hbx]
  simp only [ZWP, S_law_2]
  refine wE_cut _ hw8 ?_
  rintro d G ⟨b, a', rfl, ⟨hb, hnm, hnd⟩, rfl⟩
  have hnr : nrG [box ds a'] = true := by rw [nrG_cons, nr_box]; rfl
  have hs1 := same_self 5 (.str (textT b)) [box ds a'] rfl
  have hs2 := same_self 5 (billD b) [box ds a'] (same_bill hb (by decide))
  have hs3 := same_self 5 (.str []) [box ds a'] rfl
  simp only [ZWP, S_law_3, S_law_4, write_bill_eq hb (by decide) hnm, law_text_eq hb (by decide) hnm, read_bill_ok hnr hb (by decide) hnm hnd, write_none, hs1, hs2, hs3, l_empty]
  exact wE_eq (G := []) (a := .bl true) (fin_val (G := []) (t := [_]) rfl) rfl

end K05
namespace K05
open PySem PySem.Spec PyProof.Rows L2 Dl
set_option maxHeartbeats 0
abbrev R : PySem.W.OpenRow := PySem.W.OpenLaw.row PySem.Challenge.rw_latestart_k05_written_bills
abbrev hk : PySem.W.Hook := He.hookX 4 fa fn [] [] exB
def ob (s : PySem.W.SharedT) : He.AlX := He.obsX 4 fa fn [] [] exB (HandSHeadRun.getT s)
theorem ob_eq (s : PySem.W.SharedT) : ob s = hk.obs s.abs := He.obsX_eq (HandSHeadRun.getT_eq s)
def loose : List Str := (((["__name__", "LETTERS", "DIGITS", "SIGNS", "MOST_LETTERS", "MOST_DIGITS", "MOST_ITEMS", "MOST_PARTS", "MOST_QUANTITY", "MOST_LEAD", "MOST_LOT", "write_bill", "line_of", "part_text", "PlanError", "BillFault", "tokens", "string_at", "end_of_run", "kind_of", "is_number", "LineReader", "read_bill", "read_rows", "read_row", "read_parts", "read_part", "numbered_parts", "check_loops", "parts_within"] : List Str) ++ (["_law_cell", "_law_digits", "_law_draw", "_law_same", "_law_run", "_law_name", "_law_bill", "_law_text"] : List Str)) : List Str)
theorem run_ (w : World) : HandSHeadRun.RunEq R (PySem.W.view R.prog [42]) hk ob 4000 loose w := by
  intro os
  kernel_rfl
end K05
open PySem PySem.W PySem.Calls PyProof.Rows
set_option maxHeartbeats 0
theorem PySem.Challenge.cw_latestart_k05_written_bills_holds : PySem.Challenge.rw_latestart_k05_written_bills.Holds := by
  w_on; o_law
  refine HandSHeadRun.head_any (r := K05.R) (q := view K05.R.prog [42]) (H := K05.hk) (ob := K05.ob) (M := 4000) (loose := K05.loose) (d := HandSHeadRun.topDef K05.R.prog 42) (kwd := []) K05.ob_eq
    (by kernel_rfl) (fun s => by kernel_rfl) K05.run_ (by kernel_rfl) (by kernel_rfl) (by kernel_rfl) (by rfl) (by first | assumption | decide +kernel) (by decide +kernel) ⟨rfl, rfl, rfl, rfl, rfl, by decide +kernel⟩ ?hw ?hc
  case hw => w_witness2
  case hc =>
    refine Dl.walk_end (l := PySem.Challenge.rw_latestart_k05_written_bills) (n := 63) (k := 10) (F := K05.F_law) rfl (by decide) (by kernel_rfl) ⟨rfl, by decide, by decide⟩ ?F K05.holds
    intro w mg fa h Y G hmg0
    obtain ⟨K, KX, c⟩ := Y
    have T : K05.Tx K mg := ⟨w, h, KX, G, c⟩
    have hmg : mg ("law" : PySem.Str) = some (.ref fa) := by
      have e : (HandSHeadRun.topDef K05.R.prog 42).name = ("law" : PySem.Str) := by kernel_rfl
      rw [← e]
      exact hmg0
    exact ⟨K, KX, hmg, fun base => K05.ok_law (P := (PySem.Challenge.rw_latestart_k05_written_bills).prog) (w := w) (base := base) T⟩
