/- Channels, plainly. -/
import Derived.Test.YtnhjkmkocpjkmaaB
namespace Go.Proofs.Ytnhjkmkocpjkmaa

/-- Who waits to send, and what. -/
structure Snd where
  id : Int
  val : Int
  deriving DecidableEq
/-- A channel: its places, whether it is closed, what stands in it, who waits. -/
structure St where
  cap : Nat
  shut : Bool
  vals : List Int
  snds : List Snd
  rcvs : List Int
  deriving DecidableEq
/-- What an operation has come to. -/
structure Res where
  what : Int
  who : Int
  val : Int
  deriving DecidableEq

def St.queue (s : St) (id v : Int) (send : Bool) : St := if send = true then { s with snds := s.snds ++ [⟨id, v⟩] } else { s with rcvs := s.rcvs ++ [id] }
def St.send (s : St) (id v : Int) (wait : Bool) : Res × St :=
  if s.shut = true then (⟨4, 0, 0⟩, s) else
  match s.rcvs with
  | r :: l => (⟨2, r, 0⟩, { s with rcvs := l })
  | [] => if s.vals.length < s.cap then (⟨1, 0, 0⟩, { s with vals := s.vals ++ [v] }) else (⟨3, 0, 0⟩, if wait = true then s.queue id v true else s)
def St.recv (s : St) (id : Int) (wait : Bool) : Res × St :=
  match s.vals, s.snds with
  | v :: l, [] => (⟨1, 0, v⟩, { s with vals := l })
  | v :: l, a :: m => (⟨2, a.id, v⟩, { s with vals := l ++ [a.val], snds := m })
  | [], a :: m => (⟨2, a.id, a.val⟩, { s with snds := m })
  | [], [] => if s.shut = true then (⟨4, 0, 0⟩, s) else (⟨3, 0, 0⟩, if wait = true then s.queue id 0 false else s)
def St.ready (s : St) (send : Bool) : Bool := if s.shut = true then true else if send = true then (decide (0 < s.rcvs.length) || decide (s.vals.length < s.cap)) else (decide (0 < s.vals.length) || decide (0 < s.snds.length))
def St.close (s : St) : (List Int × Bool) × St := if s.shut = true then (([], false), s) else ((s.rcvs ++ s.snds.map Snd.id, true), { s with shut := true, snds := [], rcvs := [] })
def St.leave (s : St) (id : Int) : St := { s with snds := s.snds.filter fun a => !decide (a.id = id), rcvs := s.rcvs.filter fun r => !decide (r = id) }
def St.values (s : St) : List Int := s.vals ++ s.snds.map Snd.val
def St.size (s : St) : Nat := s.vals.length + s.snds.length + s.rcvs.length
def St.new (n : Nat) : St := ⟨n, false, [], [], []⟩
theorem St.size_queue (s : St) (id v : Int) (b : Bool) : (s.queue id v b).size = s.size + 1 := by
  unfold St.queue St.size
  split <;> simp <;> omega
theorem St.size_send (s : St) (id v : Int) (b : Bool) : (s.send id v b).2.size ≤ s.size + 1 := by
  unfold St.send
  split
  · simp
  · split
    · rename_i h; unfold St.size; simp [h]; omega
    · split
      · unfold St.size; simp; omega
      · dsimp only
        split
        · rw [St.size_queue]; omega
        · omega
theorem St.size_recv (s : St) (id : Int) (b : Bool) : (s.recv id b).2.size ≤ s.size + 1 := by
  unfold St.recv
  split
  · rename_i h1 h2; unfold St.size; simp [h1, h2]; omega
  · rename_i h1 h2; unfold St.size; simp [h1, h2]; omega
  · rename_i h1 h2; unfold St.size; simp [h1, h2]; omega
  · split
    · simp
    · dsimp only
      split
      · rw [St.size_queue]; omega
      · omega
theorem St.size_close (s : St) : s.close.2.size ≤ s.size := by
  unfold St.close
  split
  · simp
  · unfold St.size; simp; omega
theorem St.size_leave (s : St) (id : Int) : (s.leave id).size ≤ s.size := by
  unfold St.leave St.size
  have h1 := List.length_filter_le (fun a : Snd => !decide (a.id = id)) s.snds
  have h2 := List.length_filter_le (fun r => !decide (r = id)) s.rcvs
  dsimp only
  omega
end Go.Proofs.Ytnhjkmkocpjkmaa
