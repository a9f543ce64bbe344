"""Networks as texts (points 102 and 103)."""

from tests.cases import Case
from tests.samples import MILLION, great_network, small_networks
from trunkweb.errors import BadLine, BadPrice, BadVertex, TooMany
from trunkweb.networks.network import Network
from trunkweb.networks.texts import read_network, write_network

HEAD = "network 3\n"


class Writing(Case):
    def test_text(self):
        network = Network(3, [(0, 1, 5), (2, 0, 0), (1, 2, MILLION)])
        text = "network 3\nedge 0 1 5\nedge 2 0 0\nedge 1 2 1048576\n"
        self.assertEqual(self.steady(write_network, network), text)
        self.assertEqual(write_network(Network(1, [])), "network 1\n")
        self.assertEqual(write_network(Network(40, [])), "network 40\n")

    def test_there_and_back(self):
        for network in small_networks(3, 50) + [great_network(4), Network(1, []), Network(40, [])]:
            back = read_network(write_network(network))
            self.assertIsInstance(back, Network)
            self.assertEqual((back.size(), back.edges()), (network.size(), network.edges()))


class BadLines(Case):
    def test_empty_text(self):
        self.fails(BadLine, 0, read_network, "")

    def test_first_line(self):
        heads = [
            "\n", " \n", "network\n", "network \n", "network 3 \n", " network 3\n", "network  3\n", "network 03\n",
            "network +3\n", "network -3\n", "network 3 3\n", "Network 3\n", "networks 3\n", "edge 0 1 5\n",
            "network 3\r\n", "network x\n", "network 3.0\n", "network\t3\n", "network 12345678\n", "net 3\n",
            "network 00\n", "network 3_0\n", "network \u0663\n", "network \u00b2\n", "3\n", "\nnetwork 3\n",
            "network 00000003\n", "network 3\x0b\n", "network 0x3\n", "network " + "1" * 5000 + "\n",
        ]
        for head in heads:
            self.fails(BadLine, 0, read_network, head)
            self.fails(BadLine, 0, read_network, head + "edge 0 0 9999999\n")

    def test_other_lines(self):
        lines = [
            "\n", " \n", "edge\n", "edge 0 1\n", "edge 0 1 \n", "edge 0 1 5 \n", " edge 0 1 5\n", "edge  0 1 5\n",
            "edge 0  1 5\n", "edge 0 1  5\n", "edge 00 1 5\n", "edge 0 01 5\n", "edge 0 1 05\n", "edge 0 1 +5\n",
            "edge -0 1 5\n", "edge 0 -1 5\n", "edge 0 1 -5\n", "edge 0 1 5 5\n", "Edge 0 1 5\n", "edges 0 1 5\n",
            "network 3\n", "arc 0 1 5\n", "edge 0 1 5\r\n", "edge 0 1 x\n", "edge 0 1 12345678\n", "# edge\n",
            "edge 12345678 1 5\n", "edge 0 12345678 5\n", "edge 0 1 \u0665\n", "edge 0 1 5\t\n", "edge 0 1 5.\n",
            "edge 0 1 00000005\n", "edge 0 1 " + "9" * 5000 + "\n",
        ]
        for line in lines:
            self.fails(BadLine, 1, read_network, HEAD + line)
            self.fails(BadLine, 3, read_network, HEAD + "edge 0 1 5\nedge 1 2 5\n" + line + "edge 0 0 0\n")

    def test_no_newline_at_the_end(self):
        self.fails(BadLine, 0, read_network, "network 3")
        self.fails(BadLine, 0, read_network, "network 99")
        self.fails(BadLine, 0, read_network, "x")
        self.fails(BadLine, 1, read_network, HEAD + "edge 0 1 5")
        self.fails(BadLine, 1, read_network, HEAD + "edge 0 0 5")
        self.fails(BadLine, 1, read_network, HEAD + " ")
        self.fails(BadLine, 2, read_network, HEAD + "edge 0 1 5\nedge 1 2 5")
        self.fails(BadLine, 201, read_network, HEAD + "edge 0 1 5\n" * 200 + "edge 1 2 5")


class BadNumbers(Case):
    def test_sizes(self):
        for size in (0, 41, 100, 9999999):
            self.fails(BadVertex, 0, read_network, f"network {size}\n")
            self.fails(BadVertex, 0, read_network, f"network {size}\nx\n")
        for size in (1, 40):
            self.assertEqual(read_network(f"network {size}\n").size(), size)

    def test_ends(self):
        for ends in ("0 3", "3 0", "1 1", "9999999 0", "0 9999999", "7 7"):
            self.fails(BadVertex, 1, read_network, HEAD + f"edge {ends} 5\n")
            self.fails(BadVertex, 2, read_network, HEAD + f"edge 0 1 1\nedge {ends} 9999999\nx\n")

    def test_prices(self):
        self.assertEqual(read_network(HEAD + "edge 0 1 1048576\n").edges(), [(0, 1, MILLION)])
        self.assertEqual(read_network(HEAD + "edge 0 1 0\n").edges(), [(0, 1, 0)])
        self.fails(BadPrice, 1, read_network, HEAD + "edge 0 1 1048577\n")
        self.fails(BadPrice, 1, read_network, HEAD + "edge 0 1 9999999\n")
        self.fails(BadPrice, 2, read_network, HEAD + "edge 0 1 1\nedge 0 1 1048577\nedge 0 0 0\n")

    def test_too_many(self):
        full = HEAD + "edge 0 1 5\n" * 200
        self.assertEqual(len(read_network(full).edges()), 200)
        self.fails(TooMany, 201, read_network, full + "edge 0 1 5\n")
        self.fails(TooMany, 201, read_network, full + "edge 0 1 5\nedge 0 0 5\n")
        self.fails(TooMany, 201, read_network, full + "edge 0 1 5\nedge 0 1 5")
        self.fails(BadLine, 201, read_network, full + "edge 0 1\n")
        self.fails(BadVertex, 201, read_network, full + "edge 0 0 9999999\n")
        self.fails(BadPrice, 201, read_network, full + "edge 0 1 9999999\n")

    def test_the_first_fault_counts(self):
        self.fails(BadVertex, 0, read_network, "network 0\nedge 0 1\n")
        self.fails(BadLine, 1, read_network, HEAD + "x\nedge 0 0 0\nedge 0 1 9999999\n")
        self.fails(BadVertex, 1, read_network, HEAD + "edge 0 0 0\nx\nedge 0 1 9999999\n")
        self.fails(BadPrice, 1, read_network, HEAD + "edge 0 1 9999999\nx\nedge 0 0 0")
        self.fails(BadVertex, 1, read_network, HEAD + "edge 0 0 9999999\n")
        self.fails(BadLine, 1, read_network, HEAD + "edge 0 0 09999999\n")
